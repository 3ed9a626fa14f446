import PyProof.Rows.All
import Wide.All
import OpenK.AllK
import Wide.FinOn
import Lean
import PyProof.EqAt
import PyProof.EqKinds
import PyProof.TupleCall
import PyProof.NeKinds
import PyProof.ListMulRoad
import PyProof.ZipIter
import PyProof.Rows.SumAny
import PySem.Challenge.RW_scaleyard_k31_whole_what_follows
set_option bootstrap.genMatcherCode false
set_option genSizeOfSpec false
set_option Elab.async false
set_option linter.all false
set_option maxRecDepth 100000
namespace L2
open PySem PySem.Spec PyProof.Rows

noncomputable abbrev Key := Sum Int Str
noncomputable def keyIs : Key → Value → Bool
  | .inl k, v => Value.isInt k v
  | .inr x, v => Value.isStrOf x v
noncomputable def keyH (w : World) : Key → Int
  | .inl k => hashInt k
  | .inr x => hashStr w x
theorem keyIs_shape : ∀ {k : Key} {v : Value}, keyIs k v = true → (∃ i t, k = Sum.inl i ∧ v = Value.int i t) ∨ (∃ x t, k = Sum.inr x ∧ v = Value.str x t)
  | .inl i, v, h => by
    obtain ⟨t, e⟩ := Value.isInt_shape (k := i) (v := v) h
    exact .inl ⟨i, t, rfl, e⟩
  | .inr x, v, h => by
    obtain ⟨t, e⟩ := Value.isStrOf_shape (x := x) (v := v) h
    exact .inr ⟨x, t, rfl, e⟩
theorem key_ll (a b : Int) : decide ((Sum.inl a : Key) = Sum.inl b) = (a == b) := by
  by_cases e : a = b
  · subst e; simp
  · have h : ¬ (Sum.inl a : Key) = Sum.inl b := fun q => e (Sum.inl.inj q)
    rw [decide_eq_false h]
    exact (beq_eq_false_iff_ne.mpr e).symm
theorem key_rr (a b : Str) : decide ((Sum.inr a : Key) = Sum.inr b) = decide (a = b) := by
  by_cases e : a = b
  · subst e; simp
  · have h : ¬ (Sum.inr a : Key) = Sum.inr b := fun q => e (Sum.inr.inj q)
    rw [decide_eq_false h, decide_eq_false e]
theorem key_lr (a : Int) (b : Str) : decide ((Sum.inl a : Key) = Sum.inr b) = false := decide_eq_false (fun q => nomatch q)
theorem key_rl (a : Str) (b : Int) : decide ((Sum.inr a : Key) = Sum.inl b) = false := decide_eq_false (fun q => nomatch q)

noncomputable def mixKind (prog : Program) (w : World) : PySem.KeyKind prog w Key where
  is := keyIs
  hash := keyH w
  inj := fun v a b ha hb => by
    rcases keyIs_shape ha with ⟨i, t, rfl, rfl⟩ | ⟨x, t, rfl, rfl⟩
    · rcases keyIs_shape hb with ⟨j, u, rfl, e⟩ | ⟨y, u, rfl, e⟩
      · injection e with e1 _; rw [e1]
      · exact nomatch e
    · rcases keyIs_shape hb with ⟨j, u, rfl, e⟩ | ⟨y, u, rfl, e⟩
      · exact nomatch e
      · injection e with e1 _; rw [e1]
  byValue := fun k v h => by
    rcases keyIs_shape h with ⟨i, t, rfl, rfl⟩ | ⟨x, t, rfl, rfl⟩ <;> rfl
  pyHash := fun hv h => by
    rcases keyIs_shape hv with ⟨i, t, rfl, rfl⟩ | ⟨x, t, rfl, rfl⟩
    · exact wpAny_pyHash_int h
    · exact wpAny_pyHash_str h
  eqBool := fun hu hv h => by
    rcases keyIs_shape hu with ⟨i, t, rfl, rfl⟩ | ⟨x, t, rfl, rfl⟩
    · rcases keyIs_shape hv with ⟨j, u, rfl, rfl⟩ | ⟨y, u, rfl, rfl⟩
      · rw [key_ll] at h; exact wpAny_eqBool_int h
      · rw [key_lr] at h; exact SeqAt.EqAt.int_str i t y u _ _ _ _ h
    · rcases keyIs_shape hv with ⟨j, u, rfl, rfl⟩ | ⟨y, u, rfl, rfl⟩
      · rw [key_rl] at h; exact SeqAt.EqAt.str_int x t j u _ _ _ _ h
      · rw [key_rr] at h; exact wpAny_eqBool_str h
  «strs» := fun k x t v h => by
    rcases keyIs_shape h with ⟨i, u, rfl, e⟩ | ⟨y, u, rfl, e⟩
    · exact nomatch e
    · injection e with e1 _
      subst e1
      cases v <;> rfl

end L2

namespace L2
open PySem PySem.Spec PyProof.Rows

inductive V where
  | non | bl (b : Bool) | int (i : Int) | str (x : Str) | byt (b : Array UInt8) | flt (b : UInt64) | ref (a : Addr) | ty (n : String)
  deriving DecidableEq

noncomputable def RelV : V → Value → Prop
  | .non, u => u = Value.none
  | .bl b, u => u = Value.bool b
  | .int i, u => ∃ t, u = Value.int i t
  | .str x, u => ∃ t, u = Value.str x t
  | .byt b, u => ∃ t, u = Value.bytes b t
  | .flt b, u => ∃ t, u = Value.float b t
  | .ref a, u => u = Value.ref a
  | .ty n, u => u = Value.type n

noncomputable abbrev Vals : List V → List Value → Prop := Paired RelV
theorem Vals.length {xs : List V} {us : List Value} (r : Vals xs us) : xs.length = us.length := Paired.length r
theorem Vals.get : ∀ {xs : List V} {us : List Value} {i : Nat} {x : V}, Vals xs us → xs[i]? = some x → ∃ u, us[i]? = some u ∧ RelV x u
  | _, _, _, _, .nil, e => by simp at e
  | _, _, 0, _, .cons r _, e => by simp at e; subst e; exact ⟨_, rfl, r⟩
  | _, _, i + 1, x, .cons _ t, e => by
    obtain ⟨u, h1, h2⟩ := Vals.get (i := i) (x := x) t (by simpa using e)
    exact ⟨u, by simpa using h1, h2⟩
theorem Vals.append {xs ys : List V} {us ws : List Value} (a : Vals xs us) (s : Vals ys ws) : Vals (xs ++ ys) (us ++ ws) := by
  cases a with
  | nil => exact s
  | cons r t => exact .cons r (Vals.append t s)
theorem Vals.take : ∀ {xs : List V} {us : List Value} (n : Nat), Vals xs us → Vals (xs.take n) (us.take n)
  | _, _, 0, _ => .nil
  | _, _, _ + 1, .nil => .nil
  | _, _, n + 1, .cons r t => .cons r (Vals.take n t)
theorem Vals.drop : ∀ {xs : List V} {us : List Value} (n : Nat), Vals xs us → Vals (xs.drop n) (us.drop n)
  | _, _, 0, r => r
  | _, _, _ + 1, .nil => .nil
  | _, _, n + 1, .cons _ t => Vals.drop n t
noncomputable def RelO : Option V → Option Value → Prop
  | some v, some u => RelV v u
  | none, none => True
  | _, _ => False
noncomputable def KV {κ : Type} : List (κ × V) → List (κ × Value) → Prop := Paired fun (p : κ × V) (q : κ × Value) => p.1 = q.1 ∧ RelV p.2 q.2

noncomputable def kV : Key → V
  | .inl i => .int i
  | .inr x => .str x

inductive HO where
  /-- a list -/
  | lst (xs : List V)
  /-- a tuple (never changes) -/
  | tup (xs : List V)
  /-- a dict whose keys are ints and texts; one whose keys are tuples of ints and texts (the empty one is both) -/
  | dK (kvs : List (Key × V)) | dT (kvs : List (List Key × V))
  /-- a set of ints: its members, its size -/
  | set (S : Int → Bool) (n : Nat)
  /-- an instance of the class at C, its dict at dx, its attributes -/
  | ins (C dx : Addr) (fs : List (Str × V))
  /-- the dict of the instance at x -/
  | own (x : Addr)
  /-- the dict of an exception -/
  | xd (fs : List (Str × V))
  /-- a bound method, f of x -/
  | met (f x : Addr)
  /-- a range object lo, lo + 1, .. below hi -/
  | rng (lo hi : Int)
  /-- a thing that is known to the object (the script; a dict while a loop walks it): read, never written while it is so -/
  | frz (o : Obj) (u : HO)
  /-- a code object's table -/
  | tbl (ps : Array Value)
  /-- any other thing, by what is true of its one object (a def of one's own: SetO a S n := HO.ext fun h => ..) -/
  | ext (φ : Heap → Prop)

noncomputable abbrev Hp := Addr → Option HO
noncomputable def upd (H : Hp) (a : Addr) (o : HO) : Hp := fun b => if b = a then some o else H b
theorem upd_same {H : Hp} {a : Addr} {o : HO} : upd H a o a = some o := by unfold upd; rw [if_pos rfl]
theorem upd_ne {H : Hp} {a b : Addr} {o : HO} (h : b ≠ a) : upd H a o b = H b := by unfold upd; rw [if_neg h]
theorem ne_of_none {H : Hp} {a b : Addr} {o : HO} (h : H a = some o) (h' : H b = none) : a ≠ b := by
  intro e; subst e; rw [h] at h'; cases h'

section
variable (P : Program) (w : World)
noncomputable def ObjOk (H : Hp) (h : Heap) (a : Addr) : HO → Prop
  | .lst xs => xs.length ≤ sizeLine ∧ ∃ (its : List Value) (n : Nat), Vals xs its ∧ h.get? a = some { cls := .type "list", data := .seq its.toArray n }
  | .tup xs => xs.length ≤ sizeLine ∧ ∃ its : List Value, Vals xs its ∧ IsTup h a its.toArray
  | .dK kvs => kvs.length ≤ sizeLine ∧ (a == sysModules) = false ∧ ∃ vs, KV kvs vs ∧ h.DictOf (mixKind P w) a vs
  | .dT kvs => kvs.length ≤ sizeLine ∧ (a == sysModules) = false ∧ ∃ xs : List (List Key × Addr × Value),
      Paired (fun (p : List Key × V) (q : List Key × Addr × Value) => p.1 = q.1 ∧ H q.2.1 = some (.tup (p.1.map kV)) ∧ RelV p.2 q.2.2) kvs xs ∧
      ∃ o es ep, h.get? a = some o ∧ o.ExactDict ∧ o.data = .dict es ep ∧ es.toList = xs.map (entryOfKey (tupleKind (mixKind P w))) ∧ (xs.map (·.1)).Nodup
  | .set S n => h.SetOf (intKind P w) a S n
  | .ins C dx fs => H dx = some (.own a) ∧ fs.length ≤ 1000 ∧ dx ≠ a ∧ h.get? a = some (PySem.W.instObj C dx) ∧
      ∃ mA, h.Ns1 dx mA ∧ (∀ f, RelO (fs.lookup f) (mA f)) ∧ PySem.Within mA (fs.map (·.1))
  | .own _ => ∃ o, h.get? a = some o
  | .xd fs => ∃ mA, h.Ns1 a mA ∧ ∀ f, RelO (fs.lookup f) (mA f)
  | .rng lo hi => ∃ t u v, h.get? a = some { cls := .type "range", data := .fields #[.int lo t, .int hi u, .int 1 v] }
  | .frz o u => h.get? a = some o ∧ ObjOk H h a u
  | .tbl ps => h.get? a = some { cls := .none, data := .fields ps }
  | .met f x => h.get? a = some (PySem.W.methodObj (.ref f) (.ref x))
  | .ext φ => φ h ∧ (∃ o, h.get? a = some o) ∧ ∀ h1 h2 : Heap, φ h1 → (∀ o, h1.get? a = some o → h2.get? a = some o) → φ h2
noncomputable def HOk (H : Hp) (h : Heap) : Prop := ∀ a o, H a = some o → ObjOk P w H h a o
end

section
variable {P : Program} {w : World} {H H' : Hp} {h h' : Heap} {a : Addr} {o : HO}
theorem ObjOk.lt (x : ObjOk P w H h a o) : a < h.objs.size := by
  cases o with
  | lst xs => obtain ⟨_, _, _, _, e⟩ := x; exact Heap.lt_size e
  | tup xs => obtain ⟨_, _, _, p⟩ := x; exact p.lt
  | dK kvs => obtain ⟨_, _, _, _, o, _, _, e, _⟩ := x; exact Heap.lt_size e
  | dT kvs => obtain ⟨_, _, _, _, o, _, _, e, _⟩ := x; exact Heap.lt_size e
  | set S n => obtain ⟨o, _, _, _, e, _⟩ := x; exact Heap.lt_size e
  | ins C dx fs => obtain ⟨_, _, _, e, _⟩ := x; exact Heap.lt_size e
  | own y => obtain ⟨_, e⟩ := x; exact Heap.lt_size e
  | xd fs => obtain ⟨_, ⟨_, _, _, e, _⟩, _⟩ := x; exact Heap.lt_size e
  | rng lo hi => obtain ⟨_, _, _, e⟩ := x; exact Heap.lt_size e
  | frz ob u => obtain ⟨e, _⟩ := x; exact Heap.lt_size e
  | tbl ps => exact Heap.lt_size (show h.get? a = some _ from x)
  | met f y => exact Heap.lt_size (show h.get? a = some _ from x)
  | ext φ => obtain ⟨_, ⟨_, e⟩, _⟩ := x; exact Heap.lt_size e
theorem Paired.mapP {α β : Type} {F G : α → β → Prop} : ∀ {l₁ : List α} {l₂ : List β}, Paired F l₁ l₂ → (∀ a b, F a b → G a b) → Paired G l₁ l₂
  | _, _, .nil, _ => .nil
  | _, _, .cons r t, f => .cons (f _ _ r) (Paired.mapP t f)
theorem ObjOk.stay (x : ObjOk P w H h a o) (k : ∀ b u, (b = a ∨ H b = some (.own a)) → h.get? b = some u → h'.get? b = some u)
    (ho : ∀ b, H b = some (.own a) → H' b = some (.own a)) (ht : ∀ b xs, H b = some (.tup xs) → H' b = some (.tup xs)) : ObjOk P w H' h' a o := by
  induction o with
  | lst xs => obtain ⟨z, its, n, r, e⟩ := x; exact ⟨z, its, n, r, k _ _ (.inl rfl) e⟩
  | tup xs => obtain ⟨z, its, r, ob, e, c⟩ := x; exact ⟨z, its, r, ob, k _ _ (.inl rfl) e, c⟩
  | dK kvs => obtain ⟨z, y, vs, r, ob, es, ep, e, c⟩ := x; exact ⟨z, y, vs, r, ob, es, ep, k _ _ (.inl rfl) e, c⟩
  | dT kvs =>
    obtain ⟨z, y, xs, r, ob, es, ep, e, c⟩ := x
    exact ⟨z, y, xs, Paired.mapP r fun p q z => ⟨z.1, ht _ _ z.2.1, z.2.2⟩, ob, es, ep, k _ _ (.inl rfl) e, c⟩
  | set S n => obtain ⟨ob, es, ep, t, e, c⟩ := x; exact ⟨ob, es, ep, t, k _ _ (.inl rfl) e, c⟩
  | ins C dx fs =>
    obtain ⟨d, z, ne, e, mA, ⟨od, es, ep, e2, c⟩, r⟩ := x
    exact ⟨ho _ d, z, ne, k _ _ (.inl rfl) e, mA, ⟨od, es, ep, k _ _ (.inr d) e2, c⟩, r⟩
  | own y => obtain ⟨ob, e⟩ := x; exact ⟨ob, k _ _ (.inl rfl) e⟩
  | xd fs => obtain ⟨mA, ⟨od, es, ep, e, c⟩, r⟩ := x; exact ⟨mA, ⟨od, es, ep, k _ _ (.inl rfl) e, c⟩, r⟩
  | rng lo hi => obtain ⟨t, u, v, e⟩ := x; exact ⟨t, u, v, k _ _ (.inl rfl) e⟩
  | frz ob u ih => obtain ⟨e, q⟩ := x; exact ⟨k _ _ (.inl rfl) e, ih q⟩
  | tbl ps =>
    have e : h.get? a = some { cls := .none, data := .fields ps } := x
    show h'.get? a = some { cls := .none, data := .fields ps }
    exact k a _ (.inl rfl) e
  | met f y =>
    have e : h.get? a = some (PySem.W.methodObj (.ref f) (.ref y)) := x
    show h'.get? a = some (PySem.W.methodObj (.ref f) (.ref y))
    exact k a _ (.inl rfl) e
  | ext φ => obtain ⟨p, ⟨o, e⟩, st⟩ := x; exact ⟨st _ _ p fun o q => k _ _ (.inl rfl) q, ⟨o, k _ _ (.inl rfl) e⟩, st⟩
theorem HOk.lt (x : HOk P w H h) (e : H a = some o) : a < h.objs.size := (x a o e).lt
theorem HOk.fresh (x : HOk P w H h) (e : h.objs.size ≤ a) : H a = none := by
  cases q : H a with
  | none => rfl
  | some u => exact absurd (Nat.lt_of_lt_of_le (x.lt q) e) (Nat.lt_irrefl _)
theorem HOk.kept (x : HOk P w H h) (k : ∀ b u, h.get? b = some u → h'.get? b = some u) : HOk P w H h' := fun a o e =>
  (x a o e).stay (fun b u _ q => k b u q) (fun _ q => q) fun _ _ q => q
theorem HOk.laid (x : HOk P w H h) (k : ∀ b u, h.get? b = some u → h'.get? b = some u) (hp : h.objs.size ≤ a) (new : ObjOk P w (upd H a o) h' a o) : HOk P w (upd H a o) h' := fun b u e => by
  have hn := x.fresh hp
  by_cases hb : b = a
  · subst hb; rw [upd_same] at e; cases e; exact new
  · rw [upd_ne hb] at e
    exact (x b u e).stay (fun c v _ q => k c v q) (fun c q => by rw [upd_ne (ne_of_none q hn)]; exact q) fun c xs q => by rw [upd_ne (ne_of_none q hn)]; exact q
end

noncomputable def Rd (H : Hp) (a : Addr) (u : HO) : Prop := H a = some u ∨ ∃ o, H a = some (.frz o u)
theorem Rd.ok {P : Program} {w : World} {H : Hp} {h : Heap} {a : Addr} {u : HO} (r : Rd H a u) (x : HOk P w H h) : ObjOk P w H h a u := by
  rcases r with r | ⟨o, r⟩
  · exact x a u r
  · obtain ⟨_, q⟩ := x a _ r
    exact q
noncomputable def Mut : Option HO → Prop
  | some (.lst _) => True
  | some (.dK _) => True
  | some (.dT _) => True
  | some (.set _ _) => True
  | some (.ins _ _ _) => True
  | some (.ext _) => True
  | _ => False
section
variable {P : Program} {w : World} {H : Hp} {h h' : Heap} {x e : Addr} {o' : HO}
theorem HOk.write (ok : HOk P w H h) (mu : Mut (H x)) (he : e = x ∨ H e = some (.own x)) (k : ∀ b u, b ≠ e → h.get? b = some u → h'.get? b = some u) (heo : ∃ u, h'.get? e = some u)
    (new : ObjOk P w (upd H x o') h' x o') : HOk P w (upd H x o') h' := fun b u q => by
  have nown : ∀ c y, H c = some (.own y) → c ≠ x := fun c y r z => by subst z; rw [r] at mu; exact mu
  have ntup : ∀ c xs, H c = some (.tup xs) → c ≠ x := fun c xs r z => by subst z; rw [r] at mu; exact mu
  by_cases hb : b = x
  · subst hb; rw [upd_same] at q; cases q; exact new
  · rw [upd_ne hb] at q
    by_cases hbe : b = e
    · have q' : H b = some (.own x) := by
        rcases he with z | z
        · exact absurd (hbe.trans z) hb
        · rw [hbe]; exact z
      rw [q] at q'; cases q'
      obtain ⟨v, hv⟩ := heo
      exact ⟨v, by rw [hbe]; exact hv⟩
    · refine (ok b u q).stay (fun c v hc r => k c v ?_ r) (fun c r => by rw [upd_ne (nown c b r)]; exact r) fun c xs r => by rw [upd_ne (ntup c xs r)]; exact r
      rcases hc with rfl | hc
      · exact hbe
      · rintro rfl
        rcases he with z | z
        · exact nown c b hc z
        · rw [hc] at z; cases z; exact hb rfl
end

set_option genSizeOf false in
set_option genInjectivity false in
structure Un (fs ex : List Addr) (H H' : Hp) (h h' : Heap) : Prop where
  keep : ∀ b o, h.get? b = some o → H b = none → b ∉ fs → b ∉ ex → h'.get? b = some o
  slot : ∀ b o, h.get? b = some o → H b = none → b ∈ fs → b ∉ ex → ∃ sl, h'.get? b = some { o with slots := sl }
  free : ∀ b o, h.get? b = some o → H b = none → b ∉ ex → H' b = none
  there : ∀ b o, h.get? b = some o → b ∉ ex → ∃ o', h'.get? b = some o'
  tups : ∀ b xs, H b = some (.tup xs) → H' b = some (.tup xs)
  frzs : ∀ b o u, H b = some (.frz o u) → H' b = some (.frz o u)
  tbls : ∀ b ps, H b = some (.tbl ps) → ∃ more, H' b = some (.tbl (ps ++ more))
section
variable {fs fs' ex ex' : List Addr} {H H1 H2 : Hp} {h h1 h2 h' : Heap} {a x e : Addr} {o : HO}
theorem Un.any (u : Un fs ex H H1 h h1) {b : Addr} {ob : Obj} (q : h.get? b = some ob) (n : H b = none) (hx : b ∉ ex) : ∃ sl, h1.get? b = some { ob with slots := sl } := by
  by_cases hb : b ∈ fs
  · exact u.slot b ob q n hb hx
  · exact ⟨ob.slots, u.keep b ob q n hb hx⟩
theorem Un.kept (k : ∀ b u, h.get? b = some u → h'.get? b = some u) : Un fs ex H H h h' :=
  ⟨fun b ob q _ _ _ => k b ob q, fun b ob q _ _ _ => ⟨ob.slots, k b ob q⟩, fun _ _ _ n _ => n, fun b ob q _ => ⟨ob, k b ob q⟩, fun _ _ q => q, fun _ _ _ q => q, fun _ ps q => ⟨#[], by rw [q]; simp⟩⟩
theorem Un.refl : Un fs ex H H h h := Un.kept fun _ _ q => q
theorem Un.laid (k : ∀ b u, h.get? b = some u → h'.get? b = some u) (hp : h.objs.size ≤ a) (hn : H a = none) : Un fs ex H (upd H a o) h h' where
  keep := fun b u q _ _ _ => k b u q
  slot := fun b u q _ _ _ => ⟨u.slots, k b u q⟩
  free := fun b u q n _ => by rw [upd_ne (Nat.ne_of_lt (Nat.lt_of_lt_of_le (Heap.lt_size q) hp))]; exact n
  there := fun b u q _ => ⟨u, k b u q⟩
  tups := fun b xs q => by rw [upd_ne (ne_of_none q hn)]; exact q
  frzs := fun b u xs q => by rw [upd_ne (ne_of_none q hn)]; exact q
  tbls := fun b ps q => ⟨#[], by rw [upd_ne (ne_of_none q hn), q]; simp⟩
theorem Un.write (mu : Mut (H x)) (he : e = x ∨ H e = some (.own x)) (k : ∀ b u, b ≠ e → h.get? b = some u → h'.get? b = some u) (heo : ∃ u, h'.get? e = some u) : Un fs ex H (upd H x o) h h' := by
  have hx : ∀ b, H b = none → b ≠ x := fun b n z => by subst z; rw [n] at mu; exact mu
  have hb : ∀ b, H b = none → b ≠ e := fun b n z => by
    subst z
    rcases he with r | r
    · exact hx b n r
    · rw [n] at r; cases r
  have hm : ∀ b u, H b = some u → ¬ Mut (some u) → b ≠ x := fun b u q nm z => by subst z; rw [q] at mu; exact nm mu
  refine ⟨fun b u q n _ _ => k b u (hb b n) q, fun b u q n _ _ => ⟨u.slots, k b u (hb b n) q⟩, fun b u q n _ => by rw [upd_ne (hx b n)]; exact n, fun b u q _ => ?_,
    fun b xs q => by rw [upd_ne (hm b _ q fun z => z)]; exact q, fun b u xs q => by rw [upd_ne (hm b _ q fun z => z)]; exact q, fun b ps q => ⟨#[], by rw [upd_ne (hm b _ q fun z => z), q]; simp⟩⟩
  by_cases hbe : b = e
  · subst hbe; exact heo
  · exact ⟨u, k b u hbe q⟩
end

noncomputable def trk (h : Heap) (H : Hp) : List Addr := (List.range h.objs.size).filter fun a => (H a).isSome
noncomputable def hidT (h : Heap) (H : Hp) : Heap := PySem.W.hideAll h (trk h H)
theorem hidT_size (h : Heap) (H : Hp) : (hidT h H).objs.size = h.objs.size := PySem.W.hideAll_size _ _
theorem hidT_get {h : Heap} {H : Hp} {b : Addr} {o : Obj} (e : h.get? b = some o) (n : H b = none) : (hidT h H).get? b = some o :=
  PySem.W.hideAll_get _ e fun hm => by
    have q : (H b).isSome = true := (List.mem_filter.mp hm).2
    rw [n] at q; simp at q
theorem of_hidT {h : Heap} {H : Hp} {b : Addr} {o : Obj} (e : (hidT h H).get? b = some o) : h.get? b = some o ∧ H b = none := by
  have e' : h.get? b = some o := PySem.W.of_hideAll (trk h H) e
  refine ⟨e', ?_⟩
  cases q : H b with
  | none => rfl
  | some x =>
    have hm : b ∈ trk h H := List.mem_filter.mpr ⟨List.mem_range.mpr (Heap.lt_size e'), by simp [q]⟩
    have z : (hidT h H).get? b = none := PySem.W.hideAll_none (trk h H) hm
    rw [z] at e; cases e

noncomputable def allNews (g h : Heap) (L : Addr) : List (Addr × Obj) := (List.range h.objs.size).filterMap fun a => if a = L ∨ (g.get? a).isSome = true then none else (h.get? a).map fun o => (a, o)
noncomputable def rest (g h : Heap) (L d : Addr) : List (Addr × Obj) := (allNews g h L).filter fun p => decide (p.1 ≠ d)
end L2

namespace L2
open PySem PySem.Spec PyProof.Rows

set_option genSizeOf false in
set_option genInjectivity false in
structure Mod (K : PySem.W.Frag) (mg : Str → Option Value) (base : Heap) : Prop where
  kin : K.In base
  glob : base.Ns mainGlobals mg
  blt : ∃ mb, base.Ns builtinsNs mb ∧ ∀ x : Str, x ≠ "__name__" → mb x = bootBuiltins x
  nolimit : base.NoLimit

set_option genSizeOf false in
set_option genInjectivity false in
structure Cx where
  prog : Program
  w : World
  K : PySem.W.Frag
  mg : Str → Option Value
  base : Heap
  A : Around
  N : List Str
  s₀ : Shared
  H₀ : Hp
  env : Env
  outer : List Env
  stack : List Env
  ex : List Addr
  fn : Str → Bool
  calm : Bool
  pn : List (Addr × Obj)
  xe : Value → Shared → Prop
noncomputable def frs (l : List Env) : List Addr := l.filterMap (·.frame)
noncomputable abbrev Cx.fs (X : Cx) : List Addr := frs X.outer

noncomputable def Vis (sc : Scope) (x : Str) : Prop := sc.names.lookup x = some .local ∨ sc.names.lookup x = some .cell ∨ sc.names.lookup x = some .free
noncomputable def Loc (sc : Scope) (x : Str) : Prop := sc.names.lookup x = some .local ∨ sc.names.lookup x = some .cell
noncomputable def Look (env : Env) (h : Heap) (m : Str → Option Value) (x : Str) (u : Value) : Prop :=
  (env.kindOf x = some .local ∧ m x = some u) ∨ ((env.kindOf x = some .cell ∨ env.kindOf x = some .free) ∧ ∃ c, env.cells.lookup x = some c ∧ h.IsCell c (some u))

set_option genSizeOf false in
set_option genInjectivity false in
structure Cx.Ok (X : Cx) : Prop where
  mod : Mod X.K X.mg X.base
  kind : X.env.scope.kind = .function
  glob : X.env.globals = mainGlobals
  blt : X.env.builtins = builtinsNs
  above : X.s₀.heap.objs.size ≤ X.env.locals
  inj : ∀ x y c, X.env.cells.lookup x = some c → X.env.cells.lookup y = some c → x = y
  has : ∀ x, (X.env.kindOf x = some .cell ∨ X.env.kindOf x = some .free) → ∃ c, X.env.cells.lookup x = some c
  cab : ∀ x c, X.fn x = true → X.env.cells.lookup x = some c → X.s₀.heap.objs.size ≤ c
  hd : X.calm = true → X.A.handled = none
  frames : X.A.frames = some X.stack
  stk : X.stack = X.outer ∨ (X.stack = X.env :: X.outer ∧ X.env.frame = some X.env.locals)
  exf : ∀ b ∈ X.ex, b ≠ X.env.locals ∧ ∀ x c, X.env.cells.lookup x = some c → c ≠ b
  bs : ∀ b o, X.base.get? b = some o → X.s₀.heap.get? b = some o ∧ X.H₀ b = none
  bsz : X.base.objs.size ≤ X.s₀.heap.objs.size
  noex : ∀ b o, X.base.get? b = some o → b ∉ X.ex
  exfs : ∀ b ∈ X.ex, b ∉ X.fs
  funs : X.s₀.heap.FunFrames X.base X.outer
  frf : ∀ b ∈ X.fs, X.H₀ b = none

set_option genSizeOf false in
set_option genInjectivity false in
structure Inv (X : Cx) (pins : List (Addr × Obj)) (σ : List (Option V)) (H : Hp) (s : Shared) : Prop where
  ok : X.Ok
  os : s.os = X.s₀.os
  bare : AllBare s.gens
  base : Un X.fs X.ex X.H₀ H X.s₀.heap s.heap
  loc : ∃ m, s.heap.Ns X.env.locals m ∧ ∀ (i : Nat) (x : Str) (v : V), X.N[i]? = some x → σ[i]? = some (some v) → Vis X.env.scope x → ∃ u, RelV v u ∧ Look X.env s.heap m x u
  cell : ∀ x c, X.env.cells.lookup x = some c → ∃ v, s.heap.IsCell c v
  free : H X.env.locals = none
  freeC : ∀ x c, X.env.cells.lookup x = some c → H c = none
  pin : ∀ p ∈ X.pn ++ pins, s.heap.get? p.1 = some p.2 ∧ H p.1 = none ∧ p.1 ≠ X.env.locals ∧ p.1 ∉ X.fs ∧ ∀ v, p.2.data ≠ .cell v
  hok : HOk X.prog X.w H s.heap
  len : σ.length = X.N.length

section
variable {X : Cx} {pins : List (Addr × Obj)} {σ : List (Option V)} {H H' : Hp} {s : Shared} {h' : Heap}

theorem Cx.Ok.nofr (ok : X.Ok) {b : Addr} {o : Obj} (e : X.base.get? b = some o) : b ∉ X.fs := fun hb => by
  have := (ok.funs.mem hb).1
  rw [e] at this; cases this
theorem Inv.bs (I : Inv X pins σ H s) : ∀ b o, X.base.get? b = some o → s.heap.get? b = some o ∧ H b = none := fun b o e =>
  ⟨I.base.keep b o (I.ok.bs b o e).1 (I.ok.bs b o e).2 (I.ok.nofr e) (I.ok.noex b o e), I.base.free b o (I.ok.bs b o e).1 (I.ok.bs b o e).2 (I.ok.noex b o e)⟩
theorem Inv.bk (I : Inv X pins σ H s) : ∀ b o, X.base.get? b = some o → s.heap.get? b = some o := fun b o e => (I.bs b o e).1
theorem Inv.mod (I : Inv X pins σ H s) : Mod X.K X.mg X.base := I.ok.mod
theorem Inv.kIn (I : Inv X pins σ H s) : X.K.In s.heap := I.ok.mod.kin.keeps I.bk
theorem Inv.fr (I : Inv X pins σ H s) : ∃ m, Fr X.base X.env.locals s.heap m :=
  let ⟨m, hn, _⟩ := I.loc
  ⟨m, hn, I.bk, Nat.le_trans I.ok.bsz I.ok.above⟩
theorem Inv.lt (I : Inv X pins σ H s) : X.env.locals < s.heap.objs.size := let ⟨_, hn, _⟩ := I.loc; hn.lt
theorem Inv.sz (I : Inv X pins σ H s) : X.s₀.heap.objs.size ≤ s.heap.objs.size := Nat.le_trans I.ok.above (Nat.le_of_lt I.lt)
theorem Inv.nofs (I : Inv X pins σ H s) {a : Addr} (h : s.heap.objs.size ≤ a) : a ∉ X.fs := fun hb => by
  obtain ⟨_, o, ho, _⟩ := I.ok.funs.mem hb
  exact absurd (Nat.lt_of_lt_of_le (Heap.lt_size ho) (Nat.le_trans I.sz h)) (Nat.lt_irrefl _)
theorem Inv.cne (I : Inv X pins σ H s) : ∀ x c, X.env.cells.lookup x = some c → c ≠ X.env.locals := fun x c e z => by
  obtain ⟨v, o, ho, hd⟩ := I.cell x c e
  obtain ⟨m, ⟨o', es, ep, ho', hd', _⟩, _⟩ := I.loc
  rw [z, ho'] at ho; cases ho; rw [hd'] at hd; cases hd
theorem Inv.funs (I : Inv X pins σ H s) : s.heap.FunFrames X.base X.outer := by
  have all : ∀ (l : List Env), (∀ b ∈ frs l, b ∈ X.fs) → X.s₀.heap.FunFrames X.base l → s.heap.FunFrames X.base l := by
    intro l
    induction l with
    | nil => intro _ _; trivial
    | cons env r ih =>
      intro hs hl
      obtain ⟨hk, ⟨L, o, hf, hn, ho, hd⟩, hr⟩ := hl
      have hL : L ∈ X.fs := hs L (by unfold frs; rw [List.filterMap_cons, hf]; exact List.mem_cons_self)
      obtain ⟨sl, e⟩ := I.base.slot L o ho (I.ok.frf L hL) hL fun z => I.ok.exfs L z hL
      exact ⟨hk, ⟨L, _, hf, hn, e, hd⟩, ih (fun b hb => hs b (by unfold frs; rw [List.filterMap_cons, hf]; exact List.mem_cons_of_mem _ hb)) hr⟩
  exact all X.outer (fun _ hb => hb) I.ok.funs

theorem Inv.stack (I : Inv X pins σ H s) : s.heap.FunFrames X.base X.stack := by
  rcases I.ok.stk with e | ⟨e, hf⟩
  · rw [e]; exact I.funs
  · rw [e]
    obtain ⟨m, hn, _⟩ := I.loc
    refine .cons (by rw [I.ok.kind]; decide) hf hn ?_ I.funs
    exact Heap.get?_none_of_le (Nat.le_trans I.ok.bsz I.ok.above)
theorem Inv.stkSub (I : Inv X pins σ H s) : ∀ b ∈ frs X.stack, b ∈ X.env.locals :: X.fs := fun b hb => by
  rcases I.ok.stk with e | ⟨e, hf⟩
  · rw [e] at hb; exact List.mem_cons_of_mem _ hb
  · rw [e] at hb
    unfold frs at hb
    rw [List.filterMap_cons, hf] at hb
    exact hb
theorem Inv.stkFree (I : Inv X pins σ H s) : ∀ b ∈ frs X.stack, H b = none := fun b hb => by
  rcases List.mem_cons.mp (I.stkSub b hb) with e | hb
  · rw [e]; exact I.free
  · obtain ⟨_, o, ho, _⟩ := I.ok.funs.mem hb
    exact I.base.free b o ho (I.ok.frf b hb) fun z => I.ok.exfs b z hb

theorem Inv.step {g' : Array GenState} {t' : Nat} {d' : Drawn} {ch : List Addr} (I : Inv X pins σ H s)
    (hch : ∀ b ∈ ch, (b ∈ X.ex ∨ X.s₀.heap.objs.size ≤ b) ∧ b ≠ X.env.locals ∧ (∀ x c, X.env.cells.lookup x = some c → c ≠ b) ∧ ∀ p ∈ X.pn ++ pins, p.1 ≠ b)
    (keep : ∀ b o, b ≠ X.env.locals → b ∉ X.fs → b ∉ ch → s.heap.get? b = some o → H b = none → h'.get? b = some o)
    (slot : ∀ b o, b ≠ X.env.locals → b ∈ X.fs → b ∉ ch → s.heap.get? b = some o → H b = none → ∃ sl, h'.get? b = some { o with slots := sl }) (free : ∀ b o, b ∉ ch → s.heap.get? b = some o → H b = none → H' b = none)
    (there : ∀ b o, b ∉ ch → s.heap.get? b = some o → ∃ o', h'.get? b = some o')
    (tups : ∀ b xs, H b = some (.tup xs) → H' b = some (.tup xs)) (frzs : ∀ b o u, H b = some (.frz o u) → H' b = some (.frz o u)) (tbls : ∀ b ps, H b = some (.tbl ps) → ∃ more, H' b = some (.tbl (ps ++ more)))
    (ns : ∀ m, s.heap.Ns X.env.locals m → h'.Ns X.env.locals m) (hok : HOk X.prog X.w H' h') (hg : AllBare g') :
    Inv X pins σ H' { s with heap := h', gens := g', drawn := d', toks := t' } := by
  have neL : ∀ b o, X.s₀.heap.get? b = some o → b ≠ X.env.locals := fun b o e => Nat.ne_of_lt (Nat.lt_of_lt_of_le (Heap.lt_size e) I.ok.above)
  have neC : ∀ b o, X.s₀.heap.get? b = some o → b ∉ X.ex → b ∉ ch := fun b o e hx hb => by
    rcases (hch b hb).1 with z | z
    · exact hx z
    · exact absurd (Nat.lt_of_lt_of_le (Heap.lt_size e) z) (Nat.lt_irrefl _)
  have cellK : ∀ x c, X.env.cells.lookup x = some c → ∀ v, s.heap.IsCell c v → h'.IsCell c v := by
    rintro x c e v ⟨o, ho, hd⟩
    have nch : c ∉ ch := fun z => (hch c z).2.2.1 x c e rfl
    by_cases hc : c ∈ X.fs
    · obtain ⟨sl, q⟩ := slot c o (I.cne x c e) hc nch ho (I.freeC x c e)
      exact ⟨_, q, hd⟩
    · exact ⟨o, keep c o (I.cne x c e) hc nch ho (I.freeC x c e), hd⟩
  refine ⟨I.ok, I.os, hg, ⟨fun b o e n hb hx => ?_, fun b o e n hb hx => ?_, fun b o e n hx => ?_, fun b o e hx => ?_, fun b xs e => tups b xs (I.base.tups b xs e), fun b o xs e => frzs b o xs (I.base.frzs b o xs e), fun b ps e => ?_⟩, ?_, fun x c e => ?_, ?_, fun x c e => ?_, fun p hp => ?_, hok, I.len⟩
  · exact keep b o (neL b o e) hb (neC b o e hx) (I.base.keep b o e n hb hx) (I.base.free b o e n hx)
  · obtain ⟨sl, e1⟩ := I.base.slot b o e n hb hx
    obtain ⟨sl', e2⟩ := slot b _ (neL b o e) hb (neC b o e hx) e1 (I.base.free b o e n hx)
    exact ⟨sl', e2⟩
  · obtain ⟨o', e1⟩ := I.base.there b o e hx
    exact free b o' (neC b o e hx) e1 (I.base.free b o e n hx)
  · obtain ⟨o', e1⟩ := I.base.there b o e hx
    exact there b o' (neC b o e hx) e1
  · obtain ⟨m1, e1⟩ := I.base.tbls b ps e
    obtain ⟨m2, e2⟩ := tbls b _ e1
    exact ⟨m1 ++ m2, by rw [e2, Array.append_assoc]⟩
  · obtain ⟨m, hn, hl⟩ := I.loc
    refine ⟨m, ns m hn, fun i x v e1 e2 e3 => ?_⟩
    obtain ⟨u, r, l⟩ := hl i x v e1 e2 e3
    refine ⟨u, r, ?_⟩
    rcases l with l | ⟨k, c, e, z⟩
    · exact .inl l
    · exact .inr ⟨k, c, e, cellK x c e _ z⟩
  · obtain ⟨v, z⟩ := I.cell x c e
    exact ⟨v, cellK x c e v z⟩
  · obtain ⟨m, ⟨o, _, _, ho, _⟩, _⟩ := I.loc
    exact free _ o (fun z => (hch _ z).2.1 rfl) ho I.free
  · obtain ⟨v, o, ho, hd⟩ := I.cell x c e
    exact free c o (fun z => (hch c z).2.2.1 x c e rfl) ho (I.freeC x c e)
  · obtain ⟨e, n, ne, nf, d⟩ := I.pin p hp
    have nch : p.1 ∉ ch := fun z => (hch p.1 z).2.2.2 p hp rfl
    exact ⟨keep p.1 p.2 ne nf nch e n, free p.1 p.2 nch e n, ne, nf, d⟩
theorem Inv.un {t' : Nat} (I : Inv X pins σ H s) (u : Un X.fs [] H H' s.heap h') (hok : HOk X.prog X.w H' h') : Inv X pins σ H' { s with heap := h', toks := t' } := by
  obtain ⟨m, ⟨o, es, ep, ho, r⟩, _⟩ := id I.loc
  obtain ⟨sl, hL⟩ := u.any ho I.free (by simp)
  exact I.step (g' := s.gens) (d' := s.drawn) (ch := []) (fun _ z => nomatch z) (fun b o _ hb _ e n => u.keep b o e n hb (by simp)) (fun b o _ hb _ e n => u.slot b o e n hb (by simp)) (fun b o _ e n => u.free b o e n (by simp)) (fun b o _ e => u.there b o e (by simp)) u.tups u.frzs u.tbls (fun m' hm => by
    obtain ⟨o', es', ep', ho', r'⟩ := hm
    rw [ho] at ho'; cases ho'
    exact ⟨_, es', ep', hL, r'⟩) hok I.bare
theorem Inv.call {g' : Array GenState} {t' : Nat} {d' : Drawn} {ch : List Addr} (I : Inv X pins σ H s) (u : Un (frs X.stack) ch H H' s.heap h') (hok : HOk X.prog X.w H' h') (hg : AllBare g')
    (hch : ∀ b ∈ ch, (b ∈ X.ex ∨ X.s₀.heap.objs.size ≤ b) ∧ b ≠ X.env.locals ∧ (∀ x c, X.env.cells.lookup x = some c → c ≠ b) ∧ ∀ p ∈ X.pn ++ pins, p.1 ≠ b) :
    Inv X pins σ H' { s with heap := h', gens := g', drawn := d', toks := t' } := by
  obtain ⟨m, ⟨o, es, ep, ho, r⟩, _⟩ := id I.loc
  obtain ⟨sl, hL⟩ := u.any ho I.free fun z => (hch _ z).2.1 rfl
  exact I.step (ch := ch) hch (fun b o hL hb hc e n => u.keep b o e n (fun z => (List.mem_cons.mp (I.stkSub b z)).elim hL hb) hc) (fun b o _ _ hc e n => u.any e n hc) (fun b o hc e n => u.free b o e n hc) (fun b o hc e => u.there b o e hc) u.tups u.frzs u.tbls (fun m' hm => by
    obtain ⟨o', es', ep', ho', r'⟩ := hm
    rw [ho] at ho'; cases ho'
    exact ⟨_, es', ep', hL, r'⟩) hok hg
theorem Inv.turned {t' : Nat} {it : Addr} (I : Inv X pins σ H s) (k : ∀ b o, b ≠ it → s.heap.get? b = some o → h'.get? b = some o) (hn : H it = none) (hL : it ≠ X.env.locals)
    (h1 : it ∈ X.ex ∨ X.s₀.heap.objs.size ≤ it) (h2 : ∀ x c, X.env.cells.lookup x = some c → c ≠ it) (h3 : ∀ p ∈ X.pn ++ pins, p.1 ≠ it) : Inv X pins σ H { s with heap := h', toks := t' } := by
  have nit : ∀ b u, H b = some u → b ≠ it := fun b u e z => by rw [z, hn] at e; cases e
  refine I.step (g' := s.gens) (d' := s.drawn) (ch := [it]) (fun b hb => ?_) (fun b o _ _ hc e _ => k b o (fun z => hc (by simp [z])) e) (fun b o _ _ hc e _ => ⟨o.slots, k b o (fun z => hc (by simp [z])) e⟩) (fun _ _ _ _ n => n)
    (fun b o hc e => ⟨o, k b o (fun z => hc (by simp [z])) e⟩) (fun _ _ e => e) (fun _ _ _ e => e) (fun b ps e => ⟨#[], by rw [e]; simp⟩) (fun m hm => ?_) (fun b u e => ?_) I.bare
  · have e : b = it := by simpa using hb
    subst e
    exact ⟨h1, hL, h2, h3⟩
  · obtain ⟨o, es, ep, ho, r⟩ := hm
    exact ⟨o, es, ep, k _ o (Ne.symm hL) ho, r⟩
  · refine (I.hok b u e).stay (fun c v hc q => k c v ?_ q) (fun _ q => q) fun _ _ q => q
    rcases hc with z | z
    · rw [z]; exact nit b u e
    · exact nit c _ z
theorem Inv.tok (I : Inv X pins σ H s) (t : Nat) : Inv X pins σ H { s with toks := t } := I.un (h' := s.heap) (t' := t) Un.refl I.hok
theorem Inv.kept {t' : Nat} (I : Inv X pins σ H s) (k : ∀ b u, s.heap.get? b = some u → h'.get? b = some u) : Inv X pins σ H { s with heap := h', toks := t' } := I.un (Un.kept k) (I.hok.kept k)
theorem Inv.laid {a : Addr} {o : HO} {t' : Nat} (I : Inv X pins σ H s) (k : ∀ b u, s.heap.get? b = some u → h'.get? b = some u) (hp : s.heap.objs.size ≤ a) (new : ObjOk X.prog X.w (upd H a o) h' a o) :
    Inv X pins σ (upd H a o) { s with heap := h', toks := t' } := I.un (Un.laid k hp (I.hok.fresh hp)) (I.hok.laid k hp new)
theorem Inv.write {x e : Addr} {o : HO} {t' : Nat} (I : Inv X pins σ H s) (mu : Mut (H x)) (he : e = x ∨ H e = some (.own x)) (k : ∀ b u, b ≠ e → s.heap.get? b = some u → h'.get? b = some u) (heo : ∃ u, h'.get? e = some u)
    (new : ObjOk X.prog X.w (upd H x o) h' x o) : Inv X pins σ (upd H x o) { s with heap := h', toks := t' } := I.un (Un.write mu he k heo) (I.hok.write mu he k heo new)
theorem Inv.weak {σ' : List (Option V)} (I : Inv X pins σ H s) (hl : σ'.length = σ.length) (w : ∀ (i : Nat) v, σ'[i]? = some (some v) → σ[i]? = some (some v)) : Inv X pins σ' H s :=
  ⟨I.ok, I.os, I.bare, I.base, let ⟨m, hn, hl'⟩ := I.loc; ⟨m, hn, fun i x v e1 e2 e3 => hl' i x v e1 (w i v e2) e3⟩, I.cell, I.free, I.freeC, I.pin, I.hok, hl.trans I.len⟩
theorem Inv.pins_of {pins' : List (Addr × Obj)} (I : Inv X pins σ H s) (h : ∀ p ∈ pins', s.heap.get? p.1 = some p.2 ∧ H p.1 = none ∧ p.1 ≠ X.env.locals ∧ p.1 ∉ X.fs ∧ ∀ v, p.2.data ≠ .cell v) : Inv X pins' σ H s :=
  ⟨I.ok, I.os, I.bare, I.base, I.loc, I.cell, I.free, I.freeC, fun p hp => (List.mem_append.mp hp).elim (fun z => I.pin p (List.mem_append_left _ z)) (h p), I.hok, I.len⟩

theorem nodup_ix {N : List Str} (hN : N.Nodup) {i j : Nat} {x : Str} (a : N[i]? = some x) (b : N[j]? = some x) : i = j := by
  obtain ⟨h1, e1⟩ := List.getElem?_eq_some_iff.mp a
  obtain ⟨h2, e2⟩ := List.getElem?_eq_some_iff.mp b
  exact (List.getElem_inj hN).mp (e1.trans e2.symm)

theorem store_ok2 {M : Model} {A : Around} {E : Value → Shared → Prop} {i : Nat} {x : Str} {v : V} {u : Value} {Q : Unit → Shared → Prop} (I : Inv X pins σ H s) (hN : X.N.Nodup) (hi : X.N[i]? = some x) (hx : Loc X.env.scope x) (r : RelV v u)
    (h : ∀ s', Inv X pins (σ.set i (some v)) H s' → (∃ a, Heap.SameBut a s.heap s'.heap ∧ (a = X.env.locals ∨ X.env.cells.lookup x = some a)) → Q () s') (hf : X.fn x = true ∨ X.env.scope.names.lookup x = some .local := by first | exact .inl rfl | exact .inr rfl | assumption) : wpAny M A (storeName X.env x u) Q E s := by
  obtain ⟨m, hn, hl⟩ := id I.loc
  have hcls : (X.env.scope.kind == .class || (X.env.scope.kind == .module && X.env.locals != X.env.globals)) = false := by rw [I.ok.kind]; rfl
  have hiσ : i < σ.length := by rw [I.len]; exact (List.getElem?_eq_some_iff.mp hi).1
  have cne := I.cne
  have tracked : ∀ {a : Addr} {h' : Heap}, (∃ o, s.heap.get? a = some o ∧ H a = none) → Heap.SameBut a s.heap h' → HOk X.prog X.w H h' := fun {a h'} ha hs b ob e => by
    obtain ⟨_, _, hfree⟩ := ha
    refine (I.hok b ob e).stay (fun c w' hc q => (hs.2 c ?_).trans q) (fun _ q => q) fun _ _ q => q
    rintro rfl
    rcases hc with rfl | hc
    · rw [hfree] at e; cases e
    · rw [hfree] at hc; cases hc
  rcases hx with hk | hk
  · refine wpAny_storeName_local hk hn (fun h' hn' hs => ?_) hcls
    obtain ⟨oL, _, _, hoL, _⟩ := id hn
    refine h _ ⟨I.ok, I.os, I.bare, ⟨fun b o e n hb hx => ?_, fun b o e n hb hx => ?_, I.base.free, fun b o e hx => ?_, I.base.tups, I.base.frzs, I.base.tbls⟩, ⟨_, hn', fun j y v' e1 e2 e3 => ?_⟩, fun y c e => ?_, I.free, I.freeC, fun p hp => ?_, tracked ⟨oL, hoL, I.free⟩ hs, by simpa using I.len⟩ ⟨_, hs, .inl rfl⟩
    · exact (hs.2 b (Nat.ne_of_lt (Nat.lt_of_lt_of_le (Heap.lt_size e) I.ok.above))).trans (I.base.keep b o e n hb hx)
    · obtain ⟨sl, e1⟩ := I.base.slot b o e n hb hx
      exact ⟨sl, (hs.2 b (Nat.ne_of_lt (Nat.lt_of_lt_of_le (Heap.lt_size e) I.ok.above))).trans e1⟩
    · obtain ⟨o', e1⟩ := I.base.there b o e hx
      exact ⟨o', (hs.2 b (Nat.ne_of_lt (Nat.lt_of_lt_of_le (Heap.lt_size e) I.ok.above))).trans e1⟩
    · by_cases hj : j = i
      · subst hj
        rw [hi] at e1; cases e1
        rw [List.getElem?_set_self hiσ] at e2
        cases e2
        exact ⟨u, r, .inl ⟨hk, by simp⟩⟩
      · rw [List.getElem?_set_ne (Ne.symm hj)] at e2
        obtain ⟨u', r', q⟩ := hl j y v' e1 e2 e3
        refine ⟨u', r', ?_⟩
        rcases q with ⟨k, e⟩ | ⟨k, c, e, z⟩
        · refine .inl ⟨k, ?_⟩
          have : y ≠ x := fun e => hj (nodup_ix hN e1 (e ▸ hi))
          simp [this, e]
        · exact .inr ⟨k, c, e, z.sameBut hs (cne y c e)⟩
    · obtain ⟨w', z⟩ := I.cell y c e
      exact ⟨w', z.sameBut hs (cne y c e)⟩
    · obtain ⟨e, n, ne, nf, d⟩ := I.pin p hp
      exact ⟨(hs.2 p.1 ne).trans e, n, ne, nf, d⟩
  · have hfn : X.fn x = true := by
      rcases hf with z | z
      · exact z
      · rw [z] at hk; cases hk
    obtain ⟨c, hc⟩ := I.ok.has x (.inl hk)
    obtain ⟨w', z⟩ := I.cell x c hc
    refine wpAny_storeName_cell I.ok.kind hk hc z (fun h' hc' hs => ?_)
    obtain ⟨oc, hoc, hocd⟩ := id z
    refine h { s with heap := h' } ⟨I.ok, I.os, I.bare, ⟨fun b o e n hb hx => ?_, fun b o e n hb hx => ?_, I.base.free, fun b o e hx => ?_, I.base.tups, I.base.frzs, I.base.tbls⟩, ⟨m, hn.sameBut hs (Ne.symm (cne x c hc)), fun j y v' e1 e2 e3 => ?_⟩, fun y c' e => ?_, I.free, I.freeC, fun p hp => ?_, tracked ⟨oc, hoc, I.freeC x c hc⟩ hs, by simpa using I.len⟩ ⟨c, hs, .inr hc⟩
    · exact (hs.2 b (Nat.ne_of_lt (Nat.lt_of_lt_of_le (Heap.lt_size e) (I.ok.cab x c hfn hc)))).trans (I.base.keep b o e n hb hx)
    · obtain ⟨sl, e1⟩ := I.base.slot b o e n hb hx
      exact ⟨sl, (hs.2 b (Nat.ne_of_lt (Nat.lt_of_lt_of_le (Heap.lt_size e) (I.ok.cab x c hfn hc)))).trans e1⟩
    · obtain ⟨o', e1⟩ := I.base.there b o e hx
      exact ⟨o', (hs.2 b (Nat.ne_of_lt (Nat.lt_of_lt_of_le (Heap.lt_size e) (I.ok.cab x c hfn hc)))).trans e1⟩
    · by_cases hj : j = i
      · subst hj
        rw [hi] at e1; cases e1
        rw [List.getElem?_set_self hiσ] at e2
        cases e2
        exact ⟨u, r, .inr ⟨.inl hk, c, hc, hc'⟩⟩
      · rw [List.getElem?_set_ne (Ne.symm hj)] at e2
        obtain ⟨u', r', q⟩ := hl j y v' e1 e2 e3
        refine ⟨u', r', ?_⟩
        rcases q with q | ⟨k, c', e, z'⟩
        · exact .inl q
        · refine .inr ⟨k, c', e, z'.sameBut hs ?_⟩
          rintro rfl
          exact hj (nodup_ix hN e1 (I.ok.inj _ _ _ e hc ▸ hi))
    · by_cases hcc : c' = c
      · subst hcc; exact ⟨_, hc'⟩
      · obtain ⟨w2, z2⟩ := I.cell y c' e
        exact ⟨w2, z2.sameBut hs hcc⟩
    · obtain ⟨e, n, ne, nf, d⟩ := I.pin p hp
      refine ⟨(hs.2 p.1 ?_).trans e, n, ne, nf, d⟩
      intro q
      rw [q, hoc] at e
      have q' : oc = p.2 := Option.some.inj e
      exact d w' (by rw [← q']; exact hocd)
theorem store_ok {M : Model} {A : Around} {E : Value → Shared → Prop} {i : Nat} {x : Str} {v : V} {u : Value} {Q : Unit → Shared → Prop} (I : Inv X pins σ H s) (hN : X.N.Nodup) (hi : X.N[i]? = some x) (hx : Loc X.env.scope x) (r : RelV v u)
    (h : ∀ s', Inv X pins (σ.set i (some v)) H s' → Q () s') (hf : X.fn x = true ∨ X.env.scope.names.lookup x = some .local := by first | exact .inl rfl | exact .inr rfl | assumption) : wpAny M A (storeName X.env x u) Q E s :=
  store_ok2 I hN hi hx r (fun s' I' _ => h s' I') hf
end

noncomputable abbrev XK := Value → Option Addr → Hp → Prop
noncomputable abbrev St := List (Option V)
noncomputable abbrev VK := V → Hp → Prop
noncomputable abbrev TE := St → Hp → VK → Prop
noncomputable abbrev TT := St → Hp → (Bool → Hp → Prop) → Prop
noncomputable abbrev TA := St → Hp → (List V → Hp → Prop) → Prop
set_option genSizeOf false in
set_option genInjectivity false in
structure Ends where
  nx : St → Hp → Prop
  rt : VK
  bk : St → Hp → Prop := fun _ _ => False
  ct : St → Hp → Prop := fun _ _ => False
noncomputable abbrev TS := Ends → St → Hp → Prop

noncomputable def EP (X : Cx) (pins : List (Addr × Obj)) (σ : St) (Q : VK) (u : Value) (s' : Shared) : Prop := ∃ v H', Inv X pins σ H' s' ∧ RelV v u ∧ Q v H'
noncomputable def TP (X : Cx) (pins : List (Addr × Obj)) (σ : St) (Q : Bool → Hp → Prop) (b : Bool) (s' : Shared) : Prop := ∃ H', Inv X pins σ H' s' ∧ Q b H'
noncomputable def AP (X : Cx) (pins : List (Addr × Obj)) (σ : St) (Q : List V → Hp → Prop) (us : List Value) (s' : Shared) : Prop := ∃ vs H', Inv X pins σ H' s' ∧ Vals vs us ∧ Q vs H'
noncomputable def SP (X : Cx) (pins : List (Addr × Obj)) (D : Ends) (f : Flow) (s' : Shared) : Prop :=
  match f with
  | .next => ∃ σ' H', Inv X pins σ' H' s' ∧ D.nx σ' H'
  | .brk => ∃ σ' H', Inv X pins σ' H' s' ∧ D.bk σ' H'
  | .cont => ∃ σ' H', Inv X pins σ' H' s' ∧ D.ct σ' H'
  | .ret u => ∃ v σ' H', Inv X pins σ' H' s' ∧ RelV v u ∧ D.rt v H'

noncomputable def PE (X : Cx) (e : Expr) (t : TE) : Prop :=
  ∀ (pins : List (Addr × Obj)) (s : Shared) (σ : St) (H : Hp) (Q : VK), Inv X pins σ H s → t σ H Q → wpAny (model X.prog X.w) X.A (eval e X.env) (EP X pins σ Q) X.xe s
noncomputable def PT (X : Cx) (e : Expr) (t : TT) : Prop :=
  ∀ (pins : List (Addr × Obj)) (s : Shared) (σ : St) (H : Hp) (Q : Bool → Hp → Prop), Inv X pins σ H s → t σ H Q → wpAny (model X.prog X.w) X.A (isTrue e X.env (eval e X.env)) (TP X pins σ Q) X.xe s
noncomputable def PW (X : Cx) (e : Expr) (t : TT) : Prop :=
  ∀ (whole : Sem Value) (pins : List (Addr × Obj)) (s : Shared) (σ : St) (H : Hp) (Q : Bool → Hp → Prop), Inv X pins σ H s → t σ H Q → wpAny (model X.prog X.w) X.A (isTrue e X.env whole) (TP X pins σ Q) X.xe s
theorem PW.pt {X : Cx} {e : Expr} {t : TT} (h : PW X e t) : PT X e t := h _
noncomputable def PA (X : Cx) (es : List Expr) (t : TA) : Prop :=
  ∀ (pos : Pos) (pins : List (Addr × Obj)) (s : Shared) (σ : St) (H : Hp) (Q : List V → Hp → Prop), Inv X pins σ H s → t σ H Q → wpAny (model X.prog X.w) X.A (spliced (backTo pos (starEach es X.env))) (AP X pins σ Q) X.xe s
noncomputable def PS (X : Cx) (st : Stmt) (t : TS) : Prop :=
  ∀ (pins : List (Addr × Obj)) (s : Shared) (σ : St) (H : Hp) (D : Ends), Inv X pins σ H s → t D σ H → wpAny (model X.prog X.w) X.A (exec st X.env) (SP X pins D) X.xe s
noncomputable def PSs (X : Cx) (st : List Stmt) (t : TS) : Prop :=
  ∀ (pins : List (Addr × Obj)) (s : Shared) (σ : St) (H : Hp) (D : Ends), Inv X pins σ H s → t D σ H → wpAny (model X.prog X.w) X.A (execs st X.env) (SP X pins D) X.xe s
theorem thn {α : Type} {t : Sem α} {Q Q' : α → Shared → Prop} {M : Model} {A : Around} {E : Value → Shared → Prop} {s : Shared} (h : wpAny M A t Q E s) (hQ : ∀ a s, Q a s → Q' a s) : wpAny M A t Q' E s := wpAny_mono h hQ fun _ _ x => x
end L2

namespace L2
open PySem PySem.Spec PyProof.Rows
section
variable {X : Cx}

theorem bin {a b : Expr} {ta tb : TE} (ha : PE X a ta) (hb : PE X b tb) {pins : List (Addr × Obj)} {s : Shared} {σ : St} {H : Hp} {R : V → V → Hp → Prop} (I : Inv X pins σ H s) (h : ta σ H fun x H1 => tb σ H1 fun y H2 => R x y H2)
    {α : Type} {Q : α → Shared → Prop} {f : Value → Value → Sem α}
    (hf : ∀ v u s2 x y H2, Inv X pins σ H2 s2 → RelV x v → RelV y u → R x y H2 → wpAny (model X.prog X.w) X.A (f v u) Q X.xe s2) :
    wpAny (model X.prog X.w) X.A (eval a X.env) (fun v s₁ => wpAny (model X.prog X.w) X.A (eval b X.env) (fun u s₂ => wpAny (model X.prog X.w) X.A (f v u) Q X.xe s₂) X.xe s₁) X.xe s := by
  refine thn (ha pins s σ H _ I h) ?_
  rintro v s1 ⟨x, H1, I1, r1, q1⟩
  refine thn (hb pins s1 σ H1 _ I1 q1) ?_
  rintro u s2 ⟨y, H2, I2, r2, q2⟩
  exact hf v u s2 x y H2 I2 r1 r2 q2

noncomputable def tVar (i : Nat) : TE := fun σ H Q => ∃ v, σ[i]? = some (some v) ∧ Q v H
noncomputable def tC (v : V) : TE := fun _ H Q => Q v H
theorem pe_var {i : Nat} {x : Str} {pos : Pos} (hN : X.N[i]? = some x) (hv : Vis X.env.scope x) (hd : (x == ("__debug__" : Str)) = false := by decide) (hcd : (x == ("__classdict__" : Str)) = false := by decide) : PE X (.Name x pos) (tVar i) := by
  intro pins s σ H Q I h
  obtain ⟨v, e, h⟩ := h
  obtain ⟨m, hn, hl⟩ := I.loc
  obtain ⟨u, r, l⟩ := hl i x v hN e hv
  have fin : EP X pins σ Q u s := ⟨v, H, I, r, h⟩
  rcases l with ⟨hk, hm⟩ | ⟨hk, c, hc, hcell⟩
  · exact wpAny_Name (wpAny_loadName_local I.ok.kind hk hn hm fin) hd
  · rcases hk with hk | hk
    · exact wpAny_Name (wpAny_loadName_cell I.ok.kind hk hc hcell fin) hd
    · exact wpAny_Name (wpAny_loadName_free I.ok.kind hk hc hcell fin hcd) hd
theorem pe_int {i j pos} : PE X (.Constant (.int i) j pos) (tC (.int i)) := fun _ _ _ H _ I h => wpAny_Constant_int ⟨.int i, H, I.tok _, ⟨_, rfl⟩, h⟩
theorem pe_bl {b j pos} : PE X (.Constant (.bool b) j pos) (tC (.bl b)) := fun _ _ _ H _ I h => Constant_bool ⟨.bl b, H, I, rfl, h⟩
theorem pe_non {j pos} : PE X (.Constant .none j pos) (tC .non) := fun _ _ _ H _ I h => Constant_none ⟨.non, H, I, rfl, h⟩
theorem pe_str {x j pos} : PE X (.Constant (.str x) j pos) (tC (.str x)) := fun _ _ _ H _ I h => Calls.Constant_str ⟨.str x, H, I.tok _, ⟨_, rfl⟩, h⟩

noncomputable def Gl (X : Cx) (x : Str) : Prop := X.env.kindOf x = some .globalImplicit
theorem ld_glob {E : Value → Shared → Prop} {pins : List (Addr × Obj)} {s : Shared} {σ : St} {H : Hp} {x : Str} {u : Value} {pos : Pos} {Q : Value → Shared → Prop} (I : Inv X pins σ H s) (hg : Gl X x) (hm : X.mg x = some u) (h : Q u s)
    (hd : (x == ("__debug__" : Str)) = false := by decide) : wpAny (model X.prog X.w) X.A (eval (.Name x pos) X.env) Q E s :=
  Calls.Name_function_global I.ok.kind hg (Calls.loadGlobal_global (by rw [I.ok.glob]; exact I.mod.glob.keeps I.bk) hm h) hd
theorem ld_blt {E : Value → Shared → Prop} {pins : List (Addr × Obj)} {s : Shared} {σ : St} {H : Hp} {x : Str} {u : Value} {pos : Pos} {Q : Value → Shared → Prop} (I : Inv X pins σ H s) (hg : Gl X x) (hm : X.mg x = none) (hv : bootBuiltins x = some u) (h : Q u s)
    (hn : x ≠ "__name__" := by decide) (hd : (x == ("__debug__" : Str)) = false := by decide) : wpAny (model X.prog X.w) X.A (eval (.Name x pos) X.env) Q E s := by
  obtain ⟨mb, h1, h2⟩ := I.mod.blt
  exact Calls.Name_function_global I.ok.kind hg (Calls.loadGlobal_builtin (by rw [I.ok.glob]; exact I.mod.glob.keeps I.bk) hm (by rw [I.ok.blt]; exact h1.keeps I.bk) ((h2 x hn).trans hv) h) hd
theorem pe_glob {x : Str} {v : V} {u : Value} {pos : Pos} (hg : Gl X x) (hm : X.mg x = some u) (r : RelV v u) (hd : (x == ("__debug__" : Str)) = false := by decide) : PE X (.Name x pos) (tC v) :=
  fun _ _ _ H _ I h => ld_glob I hg hm ⟨v, H, I, r, h⟩ hd
theorem pe_bltn {x : Str} {v : V} {u : Value} {pos : Pos} (hg : Gl X x) (hm : X.mg x = none) (hv : bootBuiltins x = some u) (r : RelV v u) (hn : x ≠ "__name__" := by decide) (hd : (x == ("__debug__" : Str)) = false := by decide) : PE X (.Name x pos) (tC v) :=
  fun _ _ _ H _ I h => ld_blt I hg hm hv ⟨v, H, I, r, h⟩ hn hd

variable {a b : Expr} {ta tb : TE} {pos : Pos}
variable {tA tB' : TT} {rest : List Expr}
noncomputable def tAnd (t u : TT) : TT := fun σ H Q => t σ H fun c H1 => if c = true then u σ H1 Q else Q false H1
noncomputable def tOr (t u : TT) : TT := fun σ H Q => t σ H fun c H1 => if c = true then Q true H1 else u σ H1 Q
noncomputable def tNot (t : TT) : TT := fun σ H Q => t σ H fun c H1 => Q (!c) H1
theorem pw_and1 (ha : PT X a tA) : PW X (.BoolOp .And [a] pos) tA := by
  intro wh pins s σ H Q I h
  refine isTrue_and (thn (ha pins s σ H Q I h) fun c s1 e => ?_)
  cases c with
  | true => exact isTrue_and_nil e
  | false => exact e
theorem pw_or1 (ha : PT X a tA) : PW X (.BoolOp .Or [a] pos) tA := by
  intro wh pins s σ H Q I h
  refine isTrue_or (thn (ha pins s σ H Q I h) fun c s1 e => ?_)
  cases c with
  | false => exact isTrue_or_nil e
  | true => exact e
theorem pw_and (ha : PT X a tA) (hb : PW X (.BoolOp .And (b :: rest) pos) tB') : PW X (.BoolOp .And (a :: b :: rest) pos) (tAnd tA tB') := by
  intro wh pins s σ H Q I h
  refine isTrue_and (thn (ha pins s σ H _ I h) fun c s1 ⟨H1, I1, q1⟩ => ?_)
  cases c with
  | true => exact hb wh pins s1 σ H1 Q I1 q1
  | false => exact ⟨H1, I1, q1⟩
theorem pw_or (ha : PT X a tA) (hb : PW X (.BoolOp .Or (b :: rest) pos) tB') : PW X (.BoolOp .Or (a :: b :: rest) pos) (tOr tA tB') := by
  intro wh pins s σ H Q I h
  refine isTrue_or (thn (ha pins s σ H _ I h) fun c s1 ⟨H1, I1, q1⟩ => ?_)
  cases c with
  | true => exact ⟨H1, I1, q1⟩
  | false => exact hb wh pins s1 σ H1 Q I1 q1
theorem pt_not (ha : PT X a tA) : PT X (.UnaryOp .Not a pos) (tNot tA) := by
  intro pins s σ H Q I h
  exact isTrue_not (ha pins s σ H (fun c H1 => Q (!c) H1) I h)
noncomputable def tAndV (ta tb : TE) : TE := fun σ H Q => ta σ H fun x H1 => ∃ c, x = .bl c ∧ if c = true then tb σ H1 Q else Q (.bl false) H1
noncomputable def tNotV (ta : TE) : TE := fun σ H Q => ta σ H fun x H1 => ∃ c, x = .bl c ∧ Q (.bl (!c)) H1
theorem pe_one {op} {t : TE} (h : PE X a t) : PE X (.BoolOp op [a] pos) t := fun pins s σ H Q I hw => BoolOp_one (h pins s σ H Q I hw)
theorem pe_and (ha : PE X a ta) (hb : PE X (.BoolOp .And (b :: rest) pos) tb) : PE X (.BoolOp .And (a :: b :: rest) pos) (tAndV ta tb) := by
  intro pins s σ H Q I h
  refine BoolOp_and (thn (ha pins s σ H _ I h) fun v s1 ⟨x, H1, I1, r1, q1⟩ => ?_)
  obtain ⟨c, rfl, q1⟩ := q1
  cases r1
  refine wpAny_truthy_bool ?_
  cases c with
  | true => exact hb pins s1 σ H1 Q I1 q1
  | false => exact ⟨.bl false, H1, I1, rfl, q1⟩
theorem pe_not (ha : PE X a ta) : PE X (.UnaryOp .Not a pos) (tNotV ta) := by
  intro pins s σ H Q I h
  refine UnaryOp_ (thn (ha pins s σ H _ I h) fun v s1 ⟨x, H1, I1, r1, q1⟩ => ?_)
  obtain ⟨c, rfl, q1⟩ := q1
  cases r1
  exact not_of (wpAny_truthy_bool ⟨.bl (!c), H1, I1, rfl, q1⟩)
noncomputable def tIf (t : TT) (ta tb : TE) : TE := fun σ H Q => t σ H fun c H1 => if c = true then ta σ H1 Q else tb σ H1 Q
theorem pe_ifExp {c : Expr} (hc : PT X c tA) (ha : PE X a ta) (hb : PE X b tb) : PE X (.IfExp c a b pos) (tIf tA ta tb) := by
  intro pins s σ H Q I h
  refine wpAny_IfExp (thn (hc pins s σ H _ I h) fun d s1 ⟨H1, I1, q1⟩ => ?_)
  cases d with
  | true => exact ha pins s1 σ H1 Q I1 q1
  | false => exact hb pins s1 σ H1 Q I1 q1
end
end L2

namespace L2
open PySem PySem.Spec PyProof.Rows

noncomputable def SqL (K : PySem.W.Frag) (H : Hp) (a : Addr) (xs : List V) : Prop :=
  Rd H a (.lst xs) ∨
    ∃ (o : Obj) (its : Array Value) (n : Nat), K.lookup a = some o ∧ o.cls = .type "list" ∧ o.dict = none ∧ o.data = .seq its n ∧ its.size ≤ sizeLine ∧ Vals xs its.toList
noncomputable def SqT (K : PySem.W.Frag) (H : Hp) (a : Addr) (xs : List V) : Prop :=
  Rd H a (.tup xs) ∨
    ∃ (o : Obj) (its : Array Value) (n : Nat), K.lookup a = some o ∧ o.cls = .type "tuple" ∧ o.data = .seq its n ∧ its.size ≤ sizeLine ∧ Vals xs its.toList
noncomputable def absV : Value → Option V
  | .none => some .non
  | .bool b => some (.bl b)
  | .int i _ => some (.int i)
  | .str x _ => some (.str x)
  | .bytes b _ => some (.byt b)
  | .float b _ => some (.flt b)
  | .ref a => some (.ref a)
  | .type n => some (.ty n)
  | _ => none
theorem RelV.abs {x : V} {u : Value} (r : RelV x u) : absV u = some x := by
  cases x with
  | non => cases r; rfl
  | bl _ => cases r; rfl
  | int _ => obtain ⟨t, rfl⟩ := r; rfl
  | str _ => obtain ⟨t, rfl⟩ := r; rfl
  | byt _ => obtain ⟨t, rfl⟩ := r; rfl
  | flt _ => obtain ⟨t, rfl⟩ := r; rfl
  | ref _ => cases r; rfl
  | ty _ => cases r; rfl
theorem RelV.inj {x y : V} {u : Value} (r : RelV x u) (q : RelV y u) : x = y := Option.some.inj (r.abs.symm.trans q.abs)
theorem Vals.inj {xs ys : List V} {us : List Value} (a : Vals xs us) (b : Vals ys us) : xs = ys := by
  cases a with
  | nil => cases b; rfl
  | cons r t => cases b with | cons r' t' => rw [r.inj r', Vals.inj t t']
section
variable {X : Cx} {pins : List (Addr × Obj)} {σ : St} {H : Hp} {s : Shared} {a : Addr} {xs ys : List V}
theorem SqL.of {K : PySem.W.Frag} (h : H a = some (.lst xs)) : SqL K H a xs := .inl (.inl h)
theorem SqT.of {K : PySem.W.Frag} (h : H a = some (.tup xs)) : SqT K H a xs := .inl (.inl h)
theorem Inv.list (I : Inv X pins σ H s) (h : SqL X.K H a xs) : ∃ its : List Value, Vals xs its ∧ PlainL s.heap a its.toArray ∧ xs.length ≤ sizeLine := by
  rcases h with h | ⟨o, its, n, hk, hc, hd, hs, hz, r⟩
  · obtain ⟨z, its, n, r, e⟩ := h.ok I.hok
    exact ⟨its, r, ⟨_, n, e, rfl, rfl, rfl⟩, z⟩
  · refine ⟨its.toList, r, ⟨o, n, I.kIn a o hk, hc, hd, by simpa using hs⟩, ?_⟩
    have e := r.length
    simp only [Array.length_toList] at e
    omega
theorem Inv.tuple (I : Inv X pins σ H s) (h : SqT X.K H a xs) : ∃ its : List Value, Vals xs its ∧ IsTup s.heap a its.toArray ∧ xs.length ≤ sizeLine := by
  rcases h with h | ⟨o, its, n, hk, hc, hs, hz, r⟩
  · obtain ⟨z, its, r, p⟩ := h.ok I.hok
    exact ⟨its, r, p, z⟩
  · refine ⟨its.toList, r, ⟨o, I.kIn a o hk, hc, n, by simpa using hs⟩, ?_⟩
    have e := r.length
    simp only [Array.length_toList] at e
    omega
theorem Inv.list_inj (I : Inv X pins σ H s) (h : SqL X.K H a xs) (h' : SqL X.K H a ys) : xs = ys := by
  obtain ⟨its, r, ⟨o, n, e, _, _, d⟩, _⟩ := I.list h
  obtain ⟨its', r', ⟨o', n', e', _, _, d'⟩, _⟩ := I.list h'
  rw [e] at e'; cases e'
  rw [d] at d'
  injection d' with d1 _
  have : its = its' := by simpa using congrArg Array.toList d1
  subst this
  exact r.inj r'
theorem Inv.tuple_inj (I : Inv X pins σ H s) (h : SqT X.K H a xs) (h' : SqT X.K H a ys) : xs = ys := by
  obtain ⟨its, r, ⟨o, e, _, n, d⟩, _⟩ := I.tuple h
  obtain ⟨its', r', ⟨o', e', _, n', d'⟩, _⟩ := I.tuple h'
  rw [e] at e'; cases e'
  rw [d] at d'
  injection d' with d1 _
  have : its = its' := by simpa using congrArg Array.toList d1
  subst this
  exact r.inj r'
end

noncomputable abbrev Cx.wish (X : Cx) (E : Value → Shared → Prop) : Cx := { X with xe := E }
noncomputable abbrev Cx.nox (X : Cx) : Cx := X.wish fun _ _ => False
theorem Cx.Ok.wish {X : Cx} (ok : X.Ok) (E : Value → Shared → Prop) : (X.wish E).Ok :=
  ⟨ok.mod, ok.kind, ok.glob, ok.blt, ok.above, ok.inj, ok.has, ok.cab, ok.hd, ok.frames, ok.stk, ok.exf, ok.bs, ok.bsz, ok.noex, ok.exfs, ok.funs, ok.frf⟩
theorem Cx.Ok.unwish {X : Cx} {E : Value → Shared → Prop} (ok : (X.wish E).Ok) : X.Ok :=
  ⟨ok.mod, ok.kind, ok.glob, ok.blt, ok.above, ok.inj, ok.has, ok.cab, ok.hd, ok.frames, ok.stk, ok.exf, ok.bs, ok.bsz, ok.noex, ok.exfs, ok.funs, ok.frf⟩
section
variable {X : Cx} {pins : List (Addr × Obj)} {σ : St} {H : Hp} {s : Shared} {E : Value → Shared → Prop}
theorem Inv.wish (I : Inv X pins σ H s) (E : Value → Shared → Prop) : Inv (X.wish E) pins σ H s := ⟨I.ok.wish E, I.os, I.bare, I.base, I.loc, I.cell, I.free, I.freeC, I.pin, I.hok, I.len⟩
theorem Inv.unwish (I : Inv (X.wish E) pins σ H s) : Inv X pins σ H s := ⟨I.ok.unwish, I.os, I.bare, I.base, I.loc, I.cell, I.free, I.freeC, I.pin, I.hok, I.len⟩
theorem SP.unwish {D : Ends} {f : Flow} {s' : Shared} (h : SP (X.wish E) pins D f s') : SP X pins D f s' := by
  cases f with
  | next => obtain ⟨σ', H', I, q⟩ := h; exact ⟨σ', H', I.unwish, q⟩
  | brk => obtain ⟨σ', H', I, q⟩ := h; exact ⟨σ', H', I.unwish, q⟩
  | cont => obtain ⟨σ', H', I, q⟩ := h; exact ⟨σ', H', I.unwish, q⟩
  | ret u => obtain ⟨v, σ', H', I, r, q⟩ := h; exact ⟨v, σ', H', I.unwish, r, q⟩
theorem PSs.nox {st : List Stmt} {t : TS} (h : PSs X.nox st t) : PSs X st t := fun pins s σ H D I hw =>
  wpAny_mono (h pins s σ H D (I.wish _) hw) (fun _ _ q => q.unwish) fun _ _ z => False.elim z
end

section
variable {X : Cx} {st : Stmt} {rest : List Stmt} {t u : TS} {e : Expr} {te : TE} {pos : Pos}
noncomputable def tNext : TS := fun D σ H => D.nx σ H
noncomputable def tSeq (t u : TS) : TS := fun D σ H => t { D with nx := u D } σ H
theorem pss_nil : PSs X [] tNext := fun _ _ σ H _ I h => wpAny_execs_nil ⟨σ, H, I, h⟩
theorem pss_cons (h1 : PS X st t) (h2 : PSs X rest u) : PSs X (st :: rest) (tSeq t u) := by
  intro pins s σ H D I h
  refine wpAny_execs_cons (thn (h1 pins s σ H { D with nx := u D } I h) fun f s1 q => ?_)
  cases f with
  | next =>
    obtain ⟨σ', H', I', q⟩ := q
    exact h2 pins s1 σ' H' D I' q
  | ret v => exact q
  | brk => exact q
  | cont => exact q
theorem pss_one (h1 : PS X st t) : PSs X [st] t := by
  intro pins s σ H D I h
  refine wpAny_execs_cons (thn (h1 pins s σ H D I h) fun f s1 q => ?_)
  cases f with
  | next => exact wpAny_execs_nil q
  | ret v => exact q
  | brk => exact q
  | cont => exact q
theorem Inv.quiet {pins : List (Addr × Obj)} {σ : St} {H : Hp} {s : Shared} (I : Inv X pins σ H s) : interactive X.env = false := by simp [interactive, I.ok.kind]
noncomputable def tDrop (te : TE) : TS := fun D σ H => te σ H fun _ H1 => D.nx σ H1
theorem ps_expr (he : PE X e te) (hs : swapsWith e none pos.line X.env = pure false := by rfl) : PS X (.Expr e pos) (tDrop te) := by
  intro pins s σ H D I h
  exact wpAny_Expr_any (thn (he pins s σ H _ I h) fun v s1 ⟨x, H1, I1, r1, q1⟩ => ⟨σ, H1, I1, q1⟩) I.quiet hs
noncomputable def tRet (te : TE) : TS := fun D σ H => te σ H D.rt
theorem ps_ret (he : PE X e te) : PS X (.Return (some e) pos) (tRet te) := by
  intro pins s σ H D I h
  exact wpAny_Return_some (thn (he pins s σ H _ I h) fun v s1 ⟨x, H1, I1, r1, q1⟩ => ⟨x, σ, H1, I1, r1, q1⟩)
noncomputable def tIfS (c : TT) (t u : TS) : TS := fun D σ H => c σ H fun b H1 => if b = true then t D σ H1 else u D σ H1
theorem ps_if {c : Expr} {a b : List Stmt} {tc : TT} (hc : PT X c tc) (ha : PSs X a t) (hb : PSs X b u) : PS X (.If c a b pos) (tIfS tc t u) := by
  intro pins s σ H D I h
  refine wpAny_If (thn (hc pins s σ H _ I h) fun d s1 ⟨H1, I1, q1⟩ => ?_)
  cases d with
  | true => exact ha pins s1 σ H1 D I1 q1
  | false => exact hb pins s1 σ H1 D I1 q1
end

noncomputable abbrev TG := V → St → Hp → (St → Hp → Prop) → Prop
noncomputable abbrev TGs := List V → St → Hp → (St → Hp → Prop) → Prop
noncomputable def PG (X : Cx) (target : Expr) (t : TG) : Prop :=
  ∀ (pins : List (Addr × Obj)) (s : Shared) (σ : St) (H : Hp) (v : V) (u : Value) (Q : St → Hp → Prop), Inv X pins σ H s → RelV v u → t v σ H Q →
    wpAny (model X.prog X.w) X.A (assign target X.env u) (fun _ s' => ∃ σ' H', Inv X pins σ' H' s' ∧ Q σ' H') X.xe s
noncomputable def PGs (X : Cx) (ts : List Expr) (t : TGs) : Prop :=
  ∀ (pins : List (Addr × Obj)) (s : Shared) (σ : St) (H : Hp) (vs : List V) (us : List Value) (Q : St → Hp → Prop), Inv X pins σ H s → Vals vs us → t vs σ H Q →
    wpAny (model X.prog X.w) X.A (assignInOrder ((assignEach ts X.env).map (·.2)) us) (fun _ s' => ∃ σ' H', Inv X pins σ' H' s' ∧ Q σ' H') X.xe s
section
variable {X : Cx} {pos : Pos}
noncomputable def gName (i : Nat) : TG := fun v σ H Q => Q (σ.set i (some v)) H
theorem pg_name {i : Nat} {x : Str} (hN : X.N.Nodup) (hi : X.N[i]? = some x) (hx : Loc X.env.scope x) (hf : X.fn x = true ∨ X.env.scope.names.lookup x = some .local := by first | exact .inl rfl | exact .inr rfl | assumption) : PG X (.Name x pos) (gName i) := by
  intro pins s σ H v u Q I r h
  exact wpAny_assign_Name (store_ok I hN hi hx r (fun s' I' => ⟨_, H, I', h⟩) hf)
noncomputable def gNil : TGs := fun vs σ H Q => vs = [] ∧ Q σ H
noncomputable def gCons (t : TG) (u : TGs) : TGs := fun vs σ H Q => ∃ v r, vs = v :: r ∧ t v σ H fun σ' H' => u r σ' H' Q
theorem pgs_nil : PGs X [] gNil := by
  intro pins s σ H vs us Q I r h
  obtain ⟨e, h⟩ := h
  subst e
  cases r
  exact assignInOrder_nil ⟨σ, H, I, h⟩
theorem pgs_cons {e : Expr} {es : List Expr} {t : TG} {u : TGs} (h1 : PG X e t) (h2 : PGs X es u)
    (hs : (assignEach (e :: es) X.env).map (·.2) = assign e X.env :: (assignEach es X.env).map (·.2) := by rfl) : PGs X (e :: es) (gCons t u) := by
  intro pins s σ H vs us Q I r h
  obtain ⟨v, vr, e1, h⟩ := h
  subst e1
  cases r with
  | cons r rr =>
    rw [hs]
    refine assignInOrder_cons (thn (h1 pins s σ H _ _ _ I r h) fun _ s1 ⟨σ1, H1, I1, q1⟩ => ?_)
    exact h2 pins s1 σ1 H1 _ _ Q I1 rr q1
noncomputable def gTup (K : PySem.W.Frag) (n : Nat) (t : TGs) : TG := fun v σ H Q => ∃ a xs, v = .ref a ∧ SqT K H a xs ∧ xs.length = n ∧ t xs σ H Q
theorem pg_tup {es : List Expr} {k : Nat} {t : TGs} {n : Nat} (hc : X.calm = true) (h : PGs X es t)
    (hn : (assignEach es X.env).length = n := by rfl) (hst : (assignEach es X.env).findIdx? (·.1) = none := by rfl) : PG X (.Tuple es k pos) (gTup X.K n t) := by
  intro pins s σ H v u Q I r hw
  obtain ⟨a, xs, e1, hq, hl, hw⟩ := hw
  subst e1
  cases r
  obtain ⟨its, rv, ht, hz⟩ := I.tuple hq
  refine assign_Tuple_tuple (I.ok.hd hc) ht (by simp [hn, ← hl, rv.length]) hst fun h' hx => ?_
  have I1 : Inv X pins σ H { s with heap := h' } := I.kept (t' := s.toks) fun b o e => hx b o (Nat.ne_of_lt (Heap.lt_size e)) e
  exact h pins _ σ H xs _ Q I1 (by simpa using rv) hw
noncomputable def tAsg (te : TE) (g : TG) : TS := fun D σ H => te σ H fun x H1 => g x σ H1 D.nx
theorem ps_asg {tg e : Expr} {te : TE} {g : TG} (he : PE X e te) (hg : PG X tg g) (hs : swapsWithSole [tg] e pos.line X.env = pure false := by rfl) (hw : swappedStores [tg] e X.env = pure none := by rfl)
    (h1 : (assignEach [tg] X.env).map (·.2) = [assign tg X.env] := by rfl) : PS X (.Assign [tg] e pos) (tAsg te g) := by
  intro pins s σ H D I h
  refine wpAny_Assign_stores (thn (he pins s σ H _ I h) fun v s1 ⟨x, H1, I1, r1, q1⟩ => ?_) hs hw
  rw [h1]
  exact thn (hg pins s1 σ H1 x v _ I1 r1 q1) fun _ s2 q => q
theorem ps_set {i : Nat} {x : Str} {e : Expr} {te : TE} {pos' : Pos} (hN : X.N.Nodup) (hi : X.N[i]? = some x) (hx : Loc X.env.scope x) (he : PE X e te) (hs : swapsWith e (some (.Name x pos')) pos.line X.env = pure false := by rfl) (hf : X.fn x = true ∨ X.env.scope.names.lookup x = some .local := by first | exact .inl rfl | exact .inr rfl | assumption) :
    PS X (.Assign [.Name x pos'] e pos) (tAsg te (gName i)) := by
  intro pins s σ H D I h
  refine wpAny_Assign_Name (thn (he pins s σ H _ I h) fun v s1 ⟨y, H1, I1, r1, q1⟩ => ?_) hs
  exact store_ok I1 hN hi hx r1 (fun s2 I2 => ⟨_, H1, I2, q1⟩) hf
end

section
variable {X : Cx} {pos : Pos}
noncomputable def tWhile (c : TT) (tb : TS) : TS := fun D σ H => ∃ W : Nat → St → Hp → Prop, (∃ m, W m σ H) ∧ ∀ m σ H, W m σ H →
  c σ H fun b H1 => if b = true then ∃ N : St → Hp → Prop, (∀ σ' H', N σ' H' → ∃ m', m' < m ∧ W m' σ' H') ∧ tb { D with nx := N, ct := N, bk := D.nx } σ H1 else D.nx σ H1
theorem ps_while {c : Expr} {body : List Stmt} {tc : TT} {tb : TS} (hp : PassesOwn (model X.prog X.w) X.A X.env X.xe) (hc : PT X c tc) (hb : PSs X body tb) : PS X (.While c body [] pos) (tWhile tc tb) := by
  intro pins s σ H D I h
  obtain ⟨W, ⟨m0, w0⟩, turn⟩ := h
  refine wpAny_While (codeAny_whileLoop (fun n s' => ∃ σ' H', Inv X pins σ' H' s' ∧ W n σ' H') ?_ m0 ⟨σ, H, I, w0⟩)
  rintro n s1 ⟨σ1, H1, I1, w1⟩
  refine wpAny_passesOwn hp (thn (hc pins s1 σ1 H1 _ I1 (turn n σ1 H1 w1)) fun b s2 ⟨H2, I2, q2⟩ => ?_)
  cases b with
  | true =>
    obtain ⟨N, hN, q2⟩ := q2
    rw [if_pos rfl]
    refine wpAny_passesOwn hp (thn (hb pins s2 σ1 H2 _ I2 q2) fun f s3 q3 => ?_)
    cases f with
    | next =>
      obtain ⟨σ3, H3, I3, n3⟩ := q3
      obtain ⟨m', hm, w3⟩ := hN σ3 H3 n3
      exact ⟨m', hm, σ3, H3, I3, w3⟩
    | cont =>
      obtain ⟨σ3, H3, I3, n3⟩ := q3
      obtain ⟨m', hm, w3⟩ := hN σ3 H3 n3
      exact ⟨m', hm, σ3, H3, I3, w3⟩
    | brk => exact q3
    | ret v => exact q3
  | false =>
    rw [if_neg Bool.false_ne_true]
    exact wpAny_execs_nil ⟨σ1, H2, I2, q2⟩
end

set_option genSizeOf false in
set_option genInjectivity false in
structure It where
  go : Nat → Hp → Prop
  yld : Nat → Hp → V → Hp → Prop
  stop : Nat → Hp → Prop
noncomputable def FpOk (X : Cx) (pins : List (Addr × Obj)) (H : Hp) (b : Addr) : Prop :=
  H b = none ∧ b ≠ X.env.locals ∧ b ∉ X.fs ∧ (b ∈ X.ex ∨ X.s₀.heap.objs.size ≤ b) ∧ (∀ x c, X.env.cells.lookup x = some c → c ≠ b) ∧ ∀ p ∈ X.pn ++ pins, p.1 ≠ b
theorem Inv.fpOk {X : Cx} {pins : List (Addr × Obj)} {σ : St} {H H' : Hp} {s : Shared} {b : Addr} (I : Inv X pins σ H s) (hb : s.heap.objs.size ≤ b) (hn : H' b = none) : FpOk X pins H' b := by
  refine ⟨hn, Nat.ne_of_gt (Nat.lt_of_lt_of_le I.lt hb), I.nofs hb, .inr (Nat.le_trans I.sz hb), fun x c e z => ?_, fun p hp z => ?_⟩
  · obtain ⟨v, q⟩ := I.cell x c e
    exact absurd (Nat.lt_of_lt_of_le q.lt (by rw [z]; exact hb)) (Nat.lt_irrefl _)
  · exact absurd (Nat.lt_of_lt_of_le (Heap.lt_size (I.pin p hp).1) (by rw [z]; exact hb)) (Nat.lt_irrefl _)
set_option genSizeOf false in
set_option genInjectivity false in
structure Turn (P : Program) (w : World) (K : PySem.W.Frag) (tg : Expr) (J : It) (fp : List Addr) (it : Addr) (tn : Nat → Heap → Prop) : Prop where
  mem : it ∈ fp
  obj : ∀ i h, tn i h → ∀ b ∈ fp, ∃ o, h.get? b = some o ∧ ∀ v, o.data ≠ .cell v
  keep : ∀ i h h', tn i h → (∀ b ∈ fp, ∀ o, h.get? b = some o → h'.get? b = some o) → tn i h'
  item : ∀ (X : Cx), X.prog = P → X.w = w → X.K = K → X.calm = true → ∀ (i : Nat) (pins : List (Addr × Obj)) (s : Shared) (σ : St) (H : Hp) (E : Value → Shared → Prop), Inv X pins σ H s → (∀ b ∈ fp, FpOk X pins H b) → tn i s.heap → J.go i H →
    wpAny (model P w) X.A (pyNext (.ref it)) (fun r s1 => ∃ u, r = some u ∧
      wpAny (model P w) X.A (letOwnedTupleGo tg (.ref it) u) (fun _ s2 => ∃ x H', Inv X pins σ H' s2 ∧ RelV x u ∧ J.yld i H x H' ∧ tn (i + 1) s2.heap ∧ ∀ b ∈ fp, H' b = none) E s1) E s
  done : ∀ (X : Cx), X.prog = P → X.w = w → X.K = K → X.calm = true → ∀ (i : Nat) (pins : List (Addr × Obj)) (s : Shared) (σ : St) (H : Hp) (E : Value → Shared → Prop), Inv X pins σ H s → (∀ b ∈ fp, FpOk X pins H b) → tn i s.heap → J.stop i H →
    wpAny (model P w) X.A (pyNext (.ref it)) (fun r s1 => r = none ∧ Inv X pins σ H s1) E s
  self : ∀ (A : Around) (i : Nat) (s : Shared) (Q : Value → Shared → Prop) (E : Value → Shared → Prop), tn i s.heap → Q (.ref it) s → wpAny (model P w) A (pyIter (.ref it)) Q E s
noncomputable abbrev TI := St → Hp → (It → Hp → Prop) → Prop
noncomputable def PIE (X : Cx) (pins : List (Addr × Obj)) (σ : St) (tg : Expr) (R : It → Hp → Prop) (itv : Value) (s2 : Shared) : Prop :=
  ∃ (it : Addr) (fp : List Addr) (tn : Nat → Heap → Prop) (J : It) (H' : Hp), itv = .ref it ∧ Inv X pins σ H' s2 ∧ Turn X.prog X.w X.K tg J fp it tn ∧ tn 0 s2.heap ∧ (∀ b ∈ fp, FpOk X pins H' b) ∧ R J H'
noncomputable def PI (X : Cx) (tg iter : Expr) (wi : TI) : Prop :=
  ∀ (pins : List (Addr × Obj)) (s : Shared) (σ : St) (H : Hp) (R : It → Hp → Prop), Inv X pins σ H s → wi σ H R →
    wpAny (model X.prog X.w) X.A (eval iter X.env) (fun v s1 => wpAny (model X.prog X.w) X.A (pyIter v) (PIE X pins σ tg R) X.xe s1) X.xe s

theorem go_of {M : Model} {A : Around} {E : Value → Shared → Prop} {s : Shared} {tg : Expr} {it : Addr} {u : Value} {o : Obj} {n : String} {vs : Array Value} {Q : Unit → Shared → Prop} (ho : s.heap.get? it = some o) (hc : o.cls = .type n) (hd : o.data = .fields vs)
    (hn : ["enumerate", "zip", "dict_itemiterator", "dict_reverseitemiterator", "odict_iterator", "itertools.zip_longest", "itertools.pairwise"].contains n = false) (hQ : Q () s) : wpAny M A (letOwnedTupleGo tg (.ref it) u) Q E s := by
  unfold letOwnedTupleGo
  cases tg <;> first
    | exact wpAny_pure hQ
    | (cases u <;> first
        | exact wpAny_pure hQ
        | (refine wpAny_bind (wpAny_load ho ?_)
           rw [hc, hd]
           show wpAny M A (if (["enumerate", "zip", "dict_itemiterator", "dict_reverseitemiterator", "odict_iterator", "itertools.zip_longest", "itertools.pairwise"].contains n && vs[0]? == some (rawInt _)) = true then _ else _) Q E s
           rw [if_neg (by intro h; rw [hn, Bool.false_and] at h; cases h)]
           exact wpAny_pure hQ))

noncomputable def Itl (K : PySem.W.Frag) (a : Addr) : It :=
  ⟨fun i H => ∃ xs x, SqL K H a xs ∧ xs[i]? = some x, fun i H x H' => H' = H ∧ ∀ xs, SqL K H a xs → xs[i]? = some x, fun i H => ∃ xs, SqL K H a xs ∧ xs.length ≤ i⟩
noncomputable def Itt (K : PySem.W.Frag) (a : Addr) : It :=
  ⟨fun i H => ∃ xs x, SqT K H a xs ∧ xs[i]? = some x, fun i H x H' => H' = H ∧ ∀ xs, SqT K H a xs → xs[i]? = some x, fun i H => ∃ xs, SqT K H a xs ∧ xs.length ≤ i⟩
noncomputable def Itr (lo : Int) (n : Nat) : It := ⟨fun i _ => i < n, fun i H x H' => H' = H ∧ x = .int (lo + i), fun i _ => n ≤ i⟩
theorem turn_list {P : Program} {w : World} {K : PySem.W.Frag} {tg : Expr} (a it : Addr) : Turn P w K tg (Itl K a) [it] it (fun i h => h.IsListIter it a i) where
  mem := by simp
  obj := fun i h st b hb => by
    have e : b = it := by simpa using hb
    subst e
    obtain ⟨o, e, c, d⟩ := st
    exact ⟨o, e, fun v z => by rw [d] at z; cases z⟩
  keep := fun i h h' st k => st.at fun o e => k it (by simp) o e
  item := by
    intro X hP hw hK hc i pins s σ H E I hf st hg
    subst hP hw hK
    obtain ⟨xs, x, hq, hx⟩ := hg
    obtain ⟨its, rv, p, hz⟩ := I.list hq
    obtain ⟨u, hu, ru⟩ := rv.get hx
    obtain ⟨f0, f1, f2, f3, f4, f5⟩ := hf it (by simp)
    refine wpAny_pyNext_list_item st p.isList (x := u) (by simpa using hu) fun h' st' sb => ?_
    have I1 : Inv X pins σ H { s with heap := h' } := I.turned (t' := s.toks) (fun b o hb e => (sb.2 b hb).trans e) f0 f1 f3 f4 f5
    obtain ⟨o, e, c, d⟩ := id st'
    exact ⟨u, rfl, go_of (s := { s with heap := h' }) e c d (by decide) ⟨x, H, I1, ru, ⟨rfl, fun ys hy => by rw [I.list_inj hy hq]; exact hx⟩, st', fun b hb => (hf b hb).1⟩⟩
  done := by
    intro X hP hw hK hc i pins s σ H E I hf st hg
    subst hP hw hK
    obtain ⟨xs, hq, hx⟩ := hg
    obtain ⟨its, rv, p, hz⟩ := I.list hq
    obtain ⟨f0, f1, f2, f3, f4, f5⟩ := hf it (by simp)
    have hl := rv.length
    exact wpAny_pyNext_list_end (I.ok.hd hc) st p.isList (by simp; omega) fun h' eb => ⟨rfl, I.turned (t' := s.toks) (fun b o hb e => eb b o hb e) f0 f1 f3 f4 f5⟩
  self := fun _ _ _ _ _ st h => wpAny_pyIter_listiter st h
theorem turn_tuple {P : Program} {w : World} {K : PySem.W.Frag} {tg : Expr} (a it : Addr) : Turn P w K tg (Itt K a) [it] it (fun i h => h.IsTupleIter it a i) where
  mem := by simp
  obj := fun i h st b hb => by
    have e : b = it := by simpa using hb
    subst e
    obtain ⟨o, e, c, d⟩ := st
    exact ⟨o, e, fun v z => by rw [d] at z; cases z⟩
  keep := fun i h h' st k => st.at fun o e => k it (by simp) o e
  item := by
    intro X hP hw hK hc i pins s σ H E I hf st hg
    subst hP hw hK
    obtain ⟨xs, x, hq, hx⟩ := hg
    obtain ⟨its, rv, p, hz⟩ := I.tuple hq
    obtain ⟨u, hu, ru⟩ := rv.get hx
    obtain ⟨f0, f1, f2, f3, f4, f5⟩ := hf it (by simp)
    refine wpAny_pyNext_tuple_item st (show s.heap.IsTuple a its.toArray from p) (x := u) (by simpa using hu) fun h' st' sb => ?_
    have I1 : Inv X pins σ H { s with heap := h' } := I.turned (t' := s.toks) (fun b o hb e => (sb.2 b hb).trans e) f0 f1 f3 f4 f5
    obtain ⟨o, e, c, d⟩ := id st'
    exact ⟨u, rfl, go_of (s := { s with heap := h' }) e c d (by decide) ⟨x, H, I1, ru, ⟨rfl, fun ys hy => by rw [I.tuple_inj hy hq]; exact hx⟩, st', fun b hb => (hf b hb).1⟩⟩
  done := by
    intro X hP hw hK hc i pins s σ H E I hf st hg
    subst hP hw hK
    obtain ⟨xs, hq, hx⟩ := hg
    obtain ⟨its, rv, p, hz⟩ := I.tuple hq
    obtain ⟨f0, f1, f2, f3, f4, f5⟩ := hf it (by simp)
    have hl := rv.length
    exact wpAny_pyNext_tuple_end (I.ok.hd hc) st (show s.heap.IsTuple a its.toArray from p) (by simp; omega) fun h' eb => ⟨rfl, I.turned (t' := s.toks) (fun b o hb e => eb b o hb e) f0 f1 f3 f4 f5⟩
  self := fun _ _ _ _ _ st h => wpAny_pyIter_tupleiter st h
theorem turn_range {P : Program} {w : World} {K : PySem.W.Frag} {tg : Expr} (it : Addr) (lo : Int) (n : Nat) : Turn P w K tg (Itr lo n) [it] it (fun i h => IsRangeIter h it (lo + (i : Nat) * 1) ((n : Int) - (i : Nat)) 1) where
  mem := by simp
  obj := fun i h st b hb => by
    have e : b = it := by simpa using hb
    subst e
    exact ⟨_, st, fun v z => by
      have z' : Data.fields _ = Data.cell v := z
      cases z'⟩
  keep := fun i h h' st k => k it (by simp) _ st
  item := by
    intro X hP hw hK hc i pins s σ H E I hf st hg
    subst hP hw hK
    obtain ⟨f0, f1, f2, f3, f4, f5⟩ := hf it (by simp)
    have W := Walks.range (prog := X.prog) (w := X.w) (I.ok.hd hc) it lo 1 n
    refine W.item i s _ _ hg st fun v h' tk hv st' kk => ?_
    obtain ⟨t, rfl⟩ := hv
    have I1 : Inv X pins σ H { s with heap := h', toks := tk } := I.turned (fun b o hb e => kk b o (by simpa using hb) e) f0 f1 f3 f4 f5
    refine ⟨_, rfl, go_of (s := { s with heap := h', toks := tk }) (n := "range_iterator") st' rfl rfl (by decide) ⟨.int (lo + i), H, I1, ⟨t, ?_⟩, ⟨rfl, rfl⟩, st', fun b hb => (hf b hb).1⟩⟩
    rw [Int.mul_one]
  done := by
    intro X hP hw hK hc i pins s σ H E I hf st hg
    subst hP hw hK
    obtain ⟨f0, f1, f2, f3, f4, f5⟩ := hf it (by simp)
    exact wpAny_pyNext_range_end (I.ok.hd hc) st (by have : n ≤ i := hg; omega) fun h' eb => ⟨rfl, I.turned (t' := s.toks) (fun b o hb e => eb b o hb e) f0 f1 f3 f4 f5⟩
  self := fun _ _ _ _ _ st h => wpAny_pyIter_rangeiter st h
end L2

namespace L2
open PySem PySem.Spec PyProof.Rows
section
variable {X : Cx} {tg : Expr}
theorem range_it {pins : List (Addr × Obj)} {σ : St} {H : Hp} {s : Shared} {R : It → Hp → Prop} {E : Value → Shared → Prop} {lo hi : Int} {t u v : Tok} {tk : Nat} (I : Inv X pins σ H s) (h1 : -(2 ^ 62) ≤ lo) (h2 : lo < 2 ^ 62) (h3 : -(2 ^ 62) ≤ hi) (h4 : hi < 2 ^ 62)
    (q : R (Itr lo (hi - lo).toNat) H) : wpAny (model X.prog X.w) X.A (pyIter (.ref s.heap.objs.size)) (PIE X pins σ tg R) E { s with heap := s.heap.push { cls := .type "range", data := .fields #[.int lo t, .int hi u, .int 1 v] }, toks := tk } := by
  refine wpAny_pyIter_range (IsRange.new ..) (small_one h1 h2 h3 h4) ?_
  have I1 : Inv X pins σ H { s with heap := s.heap.push { cls := .type "range", data := .fields #[.int lo t, .int hi u, .int 1 v] }, toks := tk } := I.kept fun b o e => Heap.get?_push_of_some _ e
  refine ⟨(s.heap.push { cls := .type "range", data := .fields #[.int lo t, .int hi u, .int 1 v] }).objs.size, [(s.heap.push { cls := .type "range", data := .fields #[.int lo t, .int hi u, .int 1 v] }).objs.size], _, _, H, rfl,
    I1.kept (t' := tk) fun b o e => Heap.get?_push_of_some _ e, turn_range _ lo (hi - lo).toNat, ?_, fun b hb => ?_, q⟩
  · have e1 : lo + ((0 : Nat) : Int) * 1 = lo := by simp
    have e2 : (((hi - lo).toNat : Nat) : Int) - ((0 : Nat) : Int) = Builtin.Range.rangeSize lo hi 1 := by rw [rangeSize_one]; split <;> omega
    show IsRangeIter _ _ (lo + ((0 : Nat) : Int) * 1) ((((hi - lo).toNat : Nat) : Int) - ((0 : Nat) : Int)) 1
    rw [e1, e2]
    exact Heap.get?_push_size _ rfl
  · have e : b = (s.heap.push { cls := .type "range", data := .fields #[.int lo t, .int hi u, .int 1 v] }).objs.size := by simpa using hb
    subst e
    exact I1.fpOk (Nat.le_refl _) (I1.hok.fresh (Nat.le_refl _))
noncomputable def iRng1 (ta : TA) : TI := fun σ H R => ta σ H fun vs H1 => ∃ j : Int, vs = [.int j] ∧ -(2 ^ 62) ≤ j ∧ j < 2 ^ 62 ∧ R (Itr 0 j.toNat) H1
noncomputable def iRng2 (ta : TA) : TI := fun σ H R => ta σ H fun vs H1 => ∃ i j : Int, vs = [.int i, .int j] ∧ (-(2 ^ 62) ≤ i ∧ i < 2 ^ 62 ∧ -(2 ^ 62) ≤ j ∧ j < 2 ^ 62) ∧ R (Itr i (j - i).toNat) H1
theorem pi_range1 {a : Expr} {ta : TA} {p pos : Pos} (hg : Gl X "range") (hm : X.mg "range" = none) (ha : PA X [a] ta) (hs : starEach [a] X.env = [(false, eval a X.env)] := by rfl) : PI X tg (.Call (.Name "range" p) [a] [] pos) (iRng1 ta) := by
  intro pins s σ H R I h
  refine Call_ (ld_blt I hg hm boot_range (PyProof.Rows.callWith_type1 (thn (ha pos pins s σ H _ I h) fun us s1 ⟨vs, H1, I1, r1, q1⟩ => ?_) hs rfl))
  obtain ⟨j, e, q1, q2, q⟩ := q1
  subst e
  cases r1 with
  | cons r rr =>
    cases rr
    obtain ⟨t, rfl⟩ := r
    exact call_range_1 (range_it I1 (by first | assumption | exact Nat.le_of_lt ‹_› | omega) (by first | assumption | exact Nat.le_of_lt ‹_› | omega) q1 q2 (by simpa using q))
theorem pi_range2 {a b : Expr} {ta : TA} {p pos : Pos} (hg : Gl X "range") (hm : X.mg "range" = none) (ha : PA X [a, b] ta) (hs : starEach [a, b] X.env = [(false, eval a X.env), (false, eval b X.env)] := by rfl) (hs2 : starEach [b] X.env = [(false, eval b X.env)] := by rfl) :
    PI X tg (.Call (.Name "range" p) [a, b] [] pos) (iRng2 ta) := by
  intro pins s σ H R I h
  refine Call_ (ld_blt I hg hm boot_range (PyProof.Rows.callWith_type1 (thn (ha pos pins s σ H _ I h) fun us s1 ⟨vs, H1, I1, r1, q1⟩ => ?_) (by rw [hs, hs2]) (by rw [hs2]; rfl)))
  obtain ⟨i, j, e, ⟨q1, q2, q3, q4⟩, q⟩ := q1
  subst e
  cases r1 with
  | cons r rr =>
    cases rr with
    | cons r' rr =>
      cases rr
      obtain ⟨t, rfl⟩ := r
      obtain ⟨t', rfl⟩ := r'
      exact call_range_2 (range_it I1 q1 q2 q3 q4 q)

noncomputable def tFor (wi : TI) (g : TG) (tb : TS) : TS := fun D σ H => wi σ H fun J H1 => ∃ W : Nat → Nat → St → Hp → Prop, (∃ m, W 0 m σ H1) ∧ ∀ i m σ H, W i m σ H →
  (J.stop i H ∧ D.nx σ H) ∨ (J.go i H ∧ ∃ N : St → Hp → Prop, (∀ σ' H', N σ' H' → ∃ m', m' < m ∧ W (i + 1) m' σ' H') ∧ ∀ x H', J.yld i H x H' → g x σ H' fun σ2 H2 => tb { D with nx := N, ct := N, bk := D.nx } σ2 H2)
noncomputable def pinsAt (fp : List Addr) (h : Heap) : List (Addr × Obj) := fp.filterMap fun b => (h.get? b).map fun o => (b, o)
theorem mem_pinsAt {fp : List Addr} {h : Heap} {b : Addr} {o : Obj} (hb : b ∈ fp) (e : h.get? b = some o) : (b, o) ∈ pinsAt fp h := List.mem_filterMap.mpr ⟨b, hb, by rw [e]; rfl⟩
theorem of_pinsAt {fp : List Addr} {h : Heap} {p : Addr × Obj} (hp : p ∈ pinsAt fp h) : p.1 ∈ fp ∧ h.get? p.1 = some p.2 := by
  obtain ⟨b, hb, e⟩ := List.mem_filterMap.mp hp
  cases q : h.get? b with
  | none => rw [q] at e; cases e
  | some o =>
    rw [q] at e
    have e' : (b, o) = p := Option.some.inj e
    subst e'
    exact ⟨hb, q⟩
theorem Inv.pinned {pins : List (Addr × Obj)} {σ : St} {H : Hp} {s : Shared} {fp : List Addr} (I : Inv X pins σ H s) (hf : ∀ b ∈ fp, FpOk X pins H b) (ho : ∀ b ∈ fp, ∃ o, s.heap.get? b = some o ∧ ∀ v, o.data ≠ .cell v) : Inv X (pins ++ pinsAt fp s.heap) σ H s :=
  I.pins_of fun p hp => (List.mem_append.mp hp).elim (fun z => I.pin p (List.mem_append_right _ z)) fun z => by
    obtain ⟨hb, e⟩ := of_pinsAt z
    obtain ⟨f0, f1, f2, _⟩ := hf p.1 hb
    obtain ⟨o, e', d⟩ := ho p.1 hb
    rw [e] at e'; cases e'
    exact ⟨e, f0, f1, f2, d⟩
theorem Inv.unpinned {pins pl : List (Addr × Obj)} {σ : St} {H : Hp} {s : Shared} (I : Inv X (pins ++ pl) σ H s) : Inv X pins σ H s := I.pins_of fun p hp => I.pin p (List.mem_append_right _ (List.mem_append_left _ hp))
theorem ps_for {iter : Expr} {body : List Stmt} {wi : TI} {g : TG} {tb : TS} {pos : Pos} (hp : PassesOwn (model X.prog X.w) X.A X.env X.xe) (hc : X.calm = true) (hi : PI X tg iter wi) (hg : PG X tg g) (hb : PSs X body tb)
    (hs : ∀ x, foldedSetIterable iter X.env x = pure x := by intro _; rfl) : PS X (.For tg iter body [] pos) (tFor wi g tb) := by
  intro pins s σ H D I h
  refine wpAny_For (thn (hi pins s σ H _ I h) fun v s1 h1 => thn h1 fun itv s2 h2 => ?_) hs
  obtain ⟨it, fp, tn, J, H2, e, I2, T, st2, f2, W, ⟨m0, w0⟩, turn⟩ := h2
  subst e
  -- what stays true of the iterator's objects through the loop
  have stat : ∀ {H' : Hp}, (∀ b ∈ fp, H' b = none) → ∀ b ∈ fp, FpOk X pins H' b := fun hn b hb => ⟨hn b hb, (f2 b hb).2⟩
  refine codeAny_forLoop_any (fun n s' => ∃ i σ' H', Inv X pins σ' H' s' ∧ tn i s'.heap ∧ (∀ b ∈ fp, H' b = none) ∧ W i n σ' H') ?_ m0 ⟨0, σ, H2, I2, st2, fun b hb => (f2 b hb).1, w0⟩
  rintro n s3 ⟨i, σ3, H3, I3, st3, fr3, w3⟩
  rcases turn i n σ3 H3 w3 with ⟨stop, qn⟩ | ⟨go, N, hN, step⟩
  · refine wpAny_passesOwn hp (thn (T.done X rfl rfl rfl hc i pins s3 σ3 H3 X.xe I3 (stat fr3) st3 stop) fun r s4 ⟨hr, I4⟩ => ?_)
    subst hr
    exact wpAny_execs_nil ⟨σ3, H3, I4, qn⟩
  · refine wpAny_passesOwn hp (thn (T.item X rfl rfl rfl hc i pins s3 σ3 H3 X.xe I3 (stat fr3) st3 go) fun r s4 ⟨u, hr, h4⟩ => ?_)
    subst hr
    refine wpAny_passesOwn hp (thn h4 fun _ s5 ⟨x, H5, I5, r5, y5, st5, fr5⟩ => ?_)
    have I5' := I5.pinned (stat fr5) (T.obj _ _ st5)
    refine wpAny_passesOwn hp (thn (hg _ s5 σ3 H5 x u _ I5' r5 (step x H5 y5)) fun _ s6 ⟨σ6, H6, I6, q6⟩ => ?_)
    refine wpAny_passesOwn hp (thn (hb _ s6 σ6 H6 _ I6 q6) fun f s7 q7 => ?_)
    have again : ∀ {σ7 : St} {H7 : Hp}, Inv X (pins ++ pinsAt fp s5.heap) σ7 H7 s7 → N σ7 H7 → ∃ m, m < n ∧ ∃ i σ' H', Inv X pins σ' H' s7 ∧ tn i s7.heap ∧ (∀ b ∈ fp, H' b = none) ∧ W i m σ' H' := fun {σ7 H7} I7 n7 => by
      obtain ⟨m', hm, w7⟩ := hN σ7 H7 n7
      refine ⟨m', hm, i + 1, σ7, H7, I7.unpinned, T.keep _ _ _ st5 fun b hb o e => (I7.pin (b, o) (List.mem_append_right _ (List.mem_append_right _ (mem_pinsAt hb e)))).1, fun b hb => ?_, w7⟩
      obtain ⟨o, e, d⟩ := T.obj _ _ st5 b hb
      exact (I7.pin (b, o) (List.mem_append_right _ (List.mem_append_right _ (mem_pinsAt hb e)))).2.1
    cases f with
    | next => obtain ⟨σ7, H7, I7, n7⟩ := q7; exact again I7 n7
    | cont => obtain ⟨σ7, H7, I7, n7⟩ := q7; exact again I7 n7
    | brk => obtain ⟨σ7, H7, I7, q7⟩ := q7; exact ⟨σ7, H7, I7.unpinned, q7⟩
    | ret v => obtain ⟨x7, σ7, H7, I7, r7, q7⟩ := q7; exact ⟨x7, σ7, H7, I7.unpinned, r7, q7⟩
end

end L2

namespace L2
open PySem PySem.Spec PyProof.Rows

noncomputable abbrev R2 := V → V → Hp → VK → Prop
noncomputable def OpR (X : Cx) (f : Value → Value → Sem Value) (r : R2) : Prop :=
  ∀ (pins : List (Addr × Obj)) (s : Shared) (σ : St) (H : Hp) (x y : V) (v u : Value) (Q : VK), Inv X pins σ H s → RelV x v → RelV y u → r x y H Q →
    wpAny (model X.prog X.w) X.A (f v u) (EP X pins σ Q) X.xe s
noncomputable def UnR (X : Cx) (f : Value → Sem Value) (r : V → Hp → VK → Prop) : Prop :=
  ∀ (pins : List (Addr × Obj)) (s : Shared) (σ : St) (H : Hp) (x : V) (v : Value) (Q : VK), Inv X pins σ H s → RelV x v → r x H Q →
    wpAny (model X.prog X.w) X.A (f v) (EP X pins σ Q) X.xe s
noncomputable def CallR (X : Cx) (f : Value) (r : List V → Hp → VK → Prop) : Prop :=
  ∀ (pins : List (Addr × Obj)) (s : Shared) (σ : St) (H : Hp) (xs : List V) (us : List Value) (Q : VK), Inv X pins σ H s → Vals xs us → r xs H Q →
    wpAny (model X.prog X.w) X.A (call f us) (EP X pins σ Q) X.xe s
noncomputable def TruR (X : Cx) (r : V → Hp → (Bool → Hp → Prop) → Prop) : Prop :=
  ∀ (pins : List (Addr × Obj)) (s : Shared) (σ : St) (H : Hp) (x : V) (v : Value) (Q : Bool → Hp → Prop), Inv X pins σ H s → RelV x v → r x H Q →
    wpAny (model X.prog X.w) X.A (truthy v) (TP X pins σ Q) X.xe s

noncomputable def tOp (r : R2) (ta tb : TE) : TE := fun σ H Q => ta σ H fun x H1 => tb σ H1 fun y H2 => r x y H2 Q
noncomputable def tUn (r : V → Hp → VK → Prop) (ta : TE) : TE := fun σ H Q => ta σ H fun x H1 => r x H1 Q
noncomputable def rI (C : Int → Int → Prop) (g : Int → Int → V) : R2 := fun x y H Q => ∃ i j, x = .int i ∧ y = .int j ∧ C i j ∧ Q (g i j) H
noncomputable def rI0 (g : Int → Int → V) : R2 := fun x y H Q => ∃ i j, x = .int i ∧ y = .int j ∧ Q (g i j) H
noncomputable def rU (g : Int → V) : V → Hp → VK → Prop := fun x H Q => ∃ i, x = .int i ∧ Q (g i) H

section
variable {X : Cx} {a b c : Expr} {ta tb tc : TE} {pos : Pos}

theorem binT (ha : PE X a ta) (hb : PE X b tb) {pins : List (Addr × Obj)} {s : Shared} {σ : St} {H : Hp} {R : V → V → Hp → Prop} (I : Inv X pins σ H s)
    (h : ta σ H fun x H1 => tb σ H1 fun y H2 => R x y H2) {Q : Value → Shared → Prop} {f : Value → Value → Sem Value}
    (hf : ∀ v u s2 x y H2, Inv X pins σ H2 s2 → RelV x v → RelV y u → R x y H2 → wpAny (model X.prog X.w) X.A (f v u) Q X.xe s2) :
    wpAny (model X.prog X.w) X.A (eval a X.env) (fun v s₁ => wpAny (model X.prog X.w) X.A (eval b X.env) (fun u s₂ => wpAny (model X.prog X.w) X.A (f v u) Q X.xe s₂) X.xe s₁) X.xe s := by
  refine thn (ha pins s σ H _ I h) ?_
  rintro v s1 ⟨x, H1, I1, r1, q1⟩
  refine thn (hb pins s1 σ H1 _ I1 q1) ?_
  rintro u s2 ⟨y, H2, I2, r2, q2⟩
  exact hf v u s2 x y H2 I2 r1 r2 q2

theorem pe_op {op : Operator} {r : R2} (ho : OpR X (binaryOp op) r) (ha : PE X a ta) (hb : PE X b tb) : PE X (.BinOp a op b pos) (tOp r ta tb) := by
  intro pins s σ H Q I h
  exact wpAny_BinOp (binT ha hb I h fun v u s2 x y H2 I2 rx ry q => ho pins s2 σ H2 x y v u Q I2 rx ry q)
theorem pe_un {op : UnaryOp} {r : V → Hp → VK → Prop} (ho : UnR X (unaryOp op) r) (ha : PE X a ta) : PE X (.UnaryOp op a pos) (tUn r ta) := by
  intro pins s σ H Q I h
  exact UnaryOp_ (thn (ha pins s σ H _ I h) fun v s1 ⟨x, H1, I1, r1, q1⟩ => ho pins s1 σ H1 x v Q I1 r1 q1)
theorem opI {f : Value → Value → Sem Value} {C : Int → Int → Prop} {g : Int → Int → Int}
    (rule : ∀ (i j : Int) (t u : Tok) (s : Shared) (Q : Value → Shared → Prop) (E : Value → Shared → Prop), C i j → Q (.int (g i j) s.toks) { s with toks := s.toks + 1 } → wpAny (model X.prog X.w) X.A (f (.int i t) (.int j u)) Q E s) :
    OpR X f (rI C fun i j => .int (g i j)) := by
  intro pins s σ H x y v u Q I rx ry h
  obtain ⟨i, j, rfl, rfl, hc, q⟩ := h
  obtain ⟨t, rfl⟩ := rx
  obtain ⟨t', rfl⟩ := ry
  exact rule i j t t' s _ _ hc ⟨.int (g i j), H, I.tok _, ⟨_, rfl⟩, q⟩
theorem opI0 {f : Value → Value → Sem Value} {g : Int → Int → Int}
    (rule : ∀ (i j : Int) (t u : Tok) (s : Shared) (Q : Value → Shared → Prop) (E : Value → Shared → Prop), Q (.int (g i j) s.toks) { s with toks := s.toks + 1 } → wpAny (model X.prog X.w) X.A (f (.int i t) (.int j u)) Q E s) :
    OpR X f (rI0 fun i j => .int (g i j)) := by
  intro pins s σ H x y v u Q I rx ry h
  obtain ⟨i, j, rfl, rfl, q⟩ := h
  obtain ⟨t, rfl⟩ := rx
  obtain ⟨t', rfl⟩ := ry
  exact rule i j t t' s _ _ ⟨.int (g i j), H, I.tok _, ⟨_, rfl⟩, q⟩
theorem opB0 {f : Value → Value → Sem Value} {g : Int → Int → Bool}
    (rule : ∀ (i j : Int) (t u : Tok) (s : Shared) (Q : Value → Shared → Prop) (E : Value → Shared → Prop), Q (.bool (g i j)) s → wpAny (model X.prog X.w) X.A (f (.int i t) (.int j u)) Q E s) :
    OpR X f (rI0 fun i j => .bl (g i j)) := by
  intro pins s σ H x y v u Q I rx ry h
  obtain ⟨i, j, rfl, rfl, q⟩ := h
  obtain ⟨t, rfl⟩ := rx
  obtain ⟨t', rfl⟩ := ry
  exact rule i j t t' s _ _ ⟨.bl (g i j), H, I, rfl, q⟩

noncomputable def CDiv (i j : Int) : Prop := 0 < j ∧ j.natAbs.log2 < 9000
noncomputable def CDivN (i j : Int) : Prop := j ≠ 0 ∧ j.natAbs.log2 < 9000
noncomputable def CMul (i j : Int) : Prop := (-(2 ^ 64) < i ∧ i < 2 ^ 64) ∨ ((-(2 ^ 64) < j ∧ j < 2 ^ 64) ∨ (i.natAbs.log2 < 1000000 ∧ j.natAbs.log2 < 1000000))
theorem bits_small {k : Int} (h : k.natAbs.log2 < 1000000) : Builtin.Int.intBits k ≤ 1000000 := by
  unfold Builtin.Int.intBits
  split
  · exact Nat.zero_le _
  · omega
theorem mul_small {i j : Int} (h1 : i.natAbs.log2 < 1000000) (h2 : j.natAbs.log2 < 1000000) : IntMulOk i j := by
  have a := bits_small h1
  have b := bits_small h2
  unfold IntMulOk Builtin.Int.intTooBig
  have e : decide (((Builtin.Int.intBits i : Nat) : Int) + ((Builtin.Int.intBits j : Nat) : Int) > ((bitsLine : Nat) : Int)) = false := by
    apply decide_eq_false
    have c : bitsLine = 134217728 := by decide
    omega
  rw [e]
  simp
theorem CMul.ok {i j : Int} (h : CMul i j) : IntMulOk i j := by
  rcases h with h | h | h
  · exact .of_left (intBits_le_64 h.1 h.2)
  · exact .of_right (intBits_le_64 h.1 h.2)
  · exact mul_small h.1 h.2
theorem op_add : OpR X (binaryOp .Add) (rI0 fun i j => .int (i + j)) := opI0 fun _ _ _ _ _ _ _ q => add_int q
theorem op_sub : OpR X (binaryOp .Sub) (rI0 fun i j => .int (i - j)) := opI0 fun _ _ _ _ _ _ _ q => sub_int q
theorem op_mul : OpR X (binaryOp .Mult) (rI CMul fun i j => .int (i * j)) := opI fun _ _ _ _ _ _ _ hc q => mul_int q hc.ok
theorem op_fdiv : OpR X (binaryOp .FloorDiv) (rI CDiv fun i j => .int (i / j)) := opI fun i j _ _ _ _ _ hc q => by
  have h1 : (0 : Int) < j := hc.1
  exact floordiv_int (by first | assumption | exact Nat.le_of_lt ‹_› | omega) (by rw [Int.fdiv_eq_ediv_of_nonneg i (by first | assumption | exact Nat.le_of_lt ‹_› | omega)]; exact q) (.inl (PyProof.noPylong_of_log2 hc.2))
theorem op_mod : OpR X (binaryOp .Mod) (rI (fun _ j => 0 < j) fun i j => .int (i % j)) := opI fun i j _ _ _ _ _ hc q => by
  have h1 : (0 : Int) < j := hc
  exact mod_int' (by first | assumption | exact Nat.le_of_lt ‹_› | omega) (by rw [Int.fmod_eq_emod_of_nonneg i (by first | assumption | exact Nat.le_of_lt ‹_› | omega)]; exact q)
theorem unI {f : Value → Sem Value} {g : Int → Int}
    (rule : ∀ (i : Int) (t : Tok) (s : Shared) (Q : Value → Shared → Prop) (E : Value → Shared → Prop), Q (.int (g i) s.toks) { s with toks := s.toks + 1 } → wpAny (model X.prog X.w) X.A (f (.int i t)) Q E s) :
    UnR X f (rU fun i => .int (g i)) := by
  intro pins s σ H x v Q I rx h
  obtain ⟨i, rfl, q⟩ := h
  obtain ⟨t, rfl⟩ := rx
  exact rule i t s _ _ ⟨.int (g i), H, I.tok _, ⟨_, rfl⟩, q⟩
theorem un_neg : UnR X (unaryOp .USub) (rU fun i => .int (-i)) := unI fun _ _ _ _ _ q => neg_int q
end

section
variable {X : Cx} {a b c : Expr} {ta tb tc : TE} {pos : Pos}
theorem fin_bl {pins : List (Addr × Obj)} {σ : St} {H : Hp} {s : Shared} {Q : VK} {k k' : Bool} (I : Inv X pins σ H s) (q : Q (.bl k) H) (e : k = k') : EP X pins σ Q (.bool k') s := by
  subst e
  exact ⟨.bl k, H, I, rfl, q⟩
theorem op_lt : OpR X (compareOp .Lt) (rI0 fun i j => .bl (decide (i < j))) := opB0 fun _ _ _ _ _ _ _ q => lt_int q
theorem op_le : OpR X (compareOp .LtE) (rI0 fun i j => .bl (decide (i ≤ j))) := opB0 fun _ _ _ _ _ _ _ q => le_int q
theorem op_gt : OpR X (compareOp .Gt) (rI0 fun i j => .bl (decide (j < i))) := opB0 fun _ _ _ _ _ _ _ q => gt_int q
theorem op_isN : OpR X (compareOp .Is) (fun x y H Q => y = .non ∧ Q (.bl (decide (x = .non))) H) := by
  intro pins s σ H x y v u Q I rx ry h
  obtain ⟨rfl, q⟩ := h
  cases ry
  refine is_none_gen (fin_bl I q ?_)
  cases x <;> first
    | (cases rx; rfl)
    | (obtain ⟨t, rfl⟩ := rx; rfl)
theorem op_notN : OpR X (compareOp .IsNot) (fun x y H Q => y = .non ∧ Q (.bl (!decide (x = .non))) H) := by
  intro pins s σ H x y v u Q I rx ry h
  obtain ⟨rfl, q⟩ := h
  cases ry
  refine isnot_none_gen (fin_bl I q ?_)
  cases x <;> first
    | (cases rx; rfl)
    | (obtain ⟨t, rfl⟩ := rx; rfl)

theorem OpR.or {f : Value → Value → Sem Value} {r r' : R2} (h : OpR X f r) (h' : OpR X f r') : OpR X f (fun x y H Q => r x y H Q ∨ r' x y H Q) := by
  intro pins s σ H x y v u Q I rx ry q
  rcases q with q | q
  · exact h pins s σ H x y v u Q I rx ry q
  · exact h' pins s σ H x y v u Q I rx ry q

theorem nomark (b : Expr) {op : CmpOp} (h : op ≠ .In := by decide) (h2 : op ≠ .NotIn := by decide) : behindInMarks op b = false := by
  have e1 : (op == CmpOp.In) = false := by cases op <;> first | rfl | exact absurd rfl h
  have e2 : (op == CmpOp.NotIn) = false := by cases op <;> first | rfl | exact absurd rfl h2
  cases b <;> simp [behindInMarks, e1, e2]
theorem pe_cmpR {op : CmpOp} {r : R2} (ho : OpR X (compareOp op) r) (ha : PE X a ta) (hb : PE X b tb) (hm : behindInMarks op b = false) : PE X (.Compare a [op] [b] pos) (tOp r ta tb) := by
  intro pins s σ H Q I h
  exact wpAny_Compare1 (binT ha hb I h fun v u s2 x y H2 I2 rx ry q => ho pins s2 σ H2 x y v u Q I2 rx ry q) hm
noncomputable def tTest (t : TE) : TT := fun σ H Q => t σ H fun x H' => ∃ k, x = .bl k ∧ Q k H'
theorem pt_cmpR {op : CmpOp} {r : R2} (ho : OpR X (compareOp op) r) (ha : PE X a ta) (hb : PE X b tb) (hm : behindInMarks op b = false) : PT X (.Compare a [op] [b] pos) (tTest (tOp r ta tb)) := by
  intro pins s σ H Q I h
  refine wpAny_isTrue_Compare1 (thn (ha pins s σ H _ I h) fun v s1 ⟨x, H1, I1, r1, q1⟩ => thn (hb pins s1 σ H1 _ I1 q1) fun u s2 ⟨y, H2, I2, r2, q2⟩ =>
    thn (ho pins s2 σ H2 x y v u _ I2 r1 r2 q2) fun c s3 ⟨z, H3, I3, r3, k, e, q3⟩ => ?_) hm
  subst e
  cases r3
  exact wpAny_truthy_bool ⟨H3, I3, q3⟩
noncomputable def TruV (K : PySem.W.Frag) (x : V) (H : Hp) (k : Bool) : Prop :=
  match x with
  | .non => k = false
  | .bl b => k = b
  | .int i => k = (i != 0)
  | .str y => y.length ≤ sizeLine ∧ k = ((y.length : Int) != 0)
  | .byt y => y.size ≤ sizeLine ∧ k = ((y.size : Int) != 0)
  | .ref p => (∃ xs, SqL K H p xs ∧ k = !xs.isEmpty) ∨ (∃ xs, SqT K H p xs ∧ k = !xs.isEmpty) ∨ ∃ kvs, H p = some (.dK kvs) ∧ k = !kvs.isEmpty
  | _ => False
theorem isEmpty_kv {κ : Type} {kvs : List (κ × V)} {vs : List (κ × Value)} (r : KV kvs vs) : (!vs.isEmpty) = !kvs.isEmpty := by
  cases r <;> rfl
theorem isEmpty_of {xs : List V} {its : List Value} (r : Vals xs its) : (!its.toArray.isEmpty) = !xs.isEmpty := by
  cases r <;> simp
theorem line63 : (sizeLine : Nat) < 2 ^ 63 := by rw [sizeLine_eq]; decide
theorem tru_ok : TruR X (fun x H Q => ∃ k, TruV X.K x H k ∧ Q k H) := by
  intro pins s σ H x v Q I rx h
  obtain ⟨k, e, q⟩ := h
  have hl := line63
  have hs : sizeLine = 16777216 := sizeLine_eq
  cases x with
  | non =>
    cases rx
    have e' : k = false := e
    subst e'
    exact truthy_none ⟨H, I, q⟩
  | bl b =>
    cases rx
    have e' : k = b := e
    subst e'
    exact wpAny_truthy_bool ⟨H, I, q⟩
  | int i =>
    obtain ⟨t, rfl⟩ := rx
    have e' : k = (i != 0) := e
    subst e'
    exact PySem.P.truthy_int ⟨H, I, q⟩
  | str y =>
    obtain ⟨t, rfl⟩ := rx
    obtain ⟨hy, e'⟩ : y.length ≤ sizeLine ∧ k = ((y.length : Int) != 0) := e
    subst e'
    exact PySem.P.truthy_str (by first | assumption | exact Nat.le_of_lt ‹_› | omega) ⟨H, I.tok _, q⟩
  | byt y =>
    obtain ⟨t, rfl⟩ := rx
    obtain ⟨hy, e'⟩ : y.size ≤ sizeLine ∧ k = ((y.size : Int) != 0) := e
    subst e'
    exact PySem.W.truthy_bytes (by first | assumption | exact Nat.le_of_lt ‹_› | omega) ⟨H, I.tok _, q⟩
  | ref p =>
    cases rx
    have e' : (∃ xs, SqL X.K H p xs ∧ k = !xs.isEmpty) ∨ (∃ xs, SqT X.K H p xs ∧ k = !xs.isEmpty) ∨ ∃ kvs, H p = some (.dK kvs) ∧ k = !kvs.isEmpty := e
    rcases e' with ⟨xs, hx, e'⟩ | ⟨xs, hx, e'⟩ | ⟨kvs, hx, e'⟩
    · subst e'
      obtain ⟨its, r, pl, hz⟩ := I.list hx
      have hlen := r.length
      exact wpAny_truthy_list pl.isList (by simp only [List.size_toArray]; omega) ⟨H, I.tok _, by rw [isEmpty_of r]; exact q⟩
    · subst e'
      obtain ⟨its, r, pl, hz⟩ := I.tuple hx
      have hlen := r.length
      exact truthy_tuple pl (by simp only [List.size_toArray]; omega) ⟨H, I.tok _, by rw [isEmpty_of r]; exact q⟩
    · subst e'
      obtain ⟨hz, hS, vs, r, m⟩ : kvs.length ≤ sizeLine ∧ (p == sysModules) = false ∧ ∃ vs, KV kvs vs ∧ s.heap.DictOf (mixKind X.prog X.w) p vs := I.hok p _ hx
      have hlen : kvs.length = vs.length := Paired.length r
      exact wpAny_truthy_dict hS m (by first | assumption | exact Nat.le_of_lt ‹_› | omega) ⟨H, I.tok _, by rw [isEmpty_kv r]; exact q⟩
  | _ => exact (show False from e).elim
theorem pt_truth (ha : PE X a ta) (he : ∀ whole, isTrue a X.env whole = (do let v ← whole; standAt a.pos; holding [v] (truthy v))) :
    PT X a (fun σ H Q => ta σ H fun x H' => ∃ k, TruV X.K x H' k ∧ Q k H') := by
  intro pins s σ H Q I h
  exact isTrue_plain (thn (ha pins s σ H _ I h) fun v s1 ⟨x, H1, I1, r1, q1⟩ => tru_ok pins s1 σ H1 x v Q I1 r1 q1) (he _)

theorem op_add_str : OpR X (binaryOp .Add) (fun x y H Q => ∃ i j, x = .str i ∧ y = .str j ∧ i.length + j.length ≤ sizeLine ∧ Q (.str (i ++ j)) H) := by
  intro pins s σ H x y v u Q I rx ry h
  obtain ⟨i, j, rfl, rfl, hz, q⟩ := h
  obtain ⟨t, rfl⟩ := rx
  obtain ⟨t', rfl⟩ := ry
  exact add_str (fun t' tk => ⟨.str (i ++ j), H, I.tok _, ⟨_, rfl⟩, q⟩) hz
theorem vals1 {x : V} {us : List Value} (r : Vals [x] us) : ∃ u, us = [u] ∧ RelV x u := by
  cases r with
  | cons r1 r2 => cases r2; exact ⟨_, rfl, r1⟩
theorem vals2 {x y : V} {us : List Value} (r : Vals [x, y] us) : ∃ u w', us = [u, w'] ∧ RelV x u ∧ RelV y w' := by
  cases r with
  | cons r1 r2 =>
    cases r2 with
    | cons r3 r4 => cases r4; exact ⟨_, _, rfl, r1, r3⟩
theorem call_abs : CallR X (.builtin "abs") (fun xs H Q => ∃ i, xs = [.int i] ∧ Q (.int (if i < 0 then -i else i)) H) := by
  intro pins s σ H xs us Q I r h
  obtain ⟨i, rfl, q⟩ := h
  obtain ⟨u, rfl, t, rfl⟩ := vals1 r
  exact call_abs_int fun u tk => ⟨.int (if i < 0 then -i else i), H, I.tok _, ⟨_, rfl⟩, q⟩
theorem call_max2 (hc : X.calm = true) : CallR X (.builtin "max") (fun xs H Q => ∃ i j, xs = [.int i, .int j] ∧ Q (.int (if j > i then j else i)) H) := by
  intro pins s σ H xs us Q I r h
  obtain ⟨i, j, rfl, q⟩ := h
  obtain ⟨u, w', rfl, ⟨t, rfl⟩, ⟨t', rfl⟩⟩ := vals2 r
  refine max_two_ints (I.ok.hd hc) fun h' tk k => ⟨_, H, I.kept k, ?_, q⟩
  by_cases hj : j > i
  · rw [if_pos hj, if_pos hj]; exact ⟨_, rfl⟩
  · rw [if_neg hj, if_neg hj]; exact ⟨_, rfl⟩
theorem call_min2 (hc : X.calm = true) : CallR X (.builtin "min") (fun xs H Q => ∃ i j, xs = [.int i, .int j] ∧ Q (.int (if j < i then j else i)) H) := by
  intro pins s σ H xs us Q I r h
  obtain ⟨i, j, rfl, q⟩ := h
  obtain ⟨u, w', rfl, ⟨t, rfl⟩, ⟨t', rfl⟩⟩ := vals2 r
  refine min_two_ints (I.ok.hd hc) fun h' tk k => ⟨_, H, I.kept k, ?_, q⟩
  by_cases hj : j < i
  · rw [if_pos hj, if_pos hj]; exact ⟨_, rfl⟩
  · rw [if_neg hj, if_neg hj]; exact ⟨_, rfl⟩
end
end L2

namespace L2
open PySem PySem.Spec PyProof.Rows

section
variable {prog : Program} {w : World} {A : Around} {E : Value → Shared → Prop} {s : Shared} {K : PySem.W.Frag} {x dx C f : Addr} {mA : Str → Option Value} {name : Str} {v : Value}

end

section
variable {P : Program} {w : World} {H H' : Hp} {h h' : Heap} {a C dx : Addr} {fs fs' : List (Str × V)}
end

section
variable {X : Cx} {pins : List (Addr × Obj)} {σ : St} {H : Hp} {s : Shared} {a C dx : Addr} {fs : List (Str × V)} {f : Str} {v : V} {A : Around} {E : Value → Shared → Prop}

end

section
variable {X : Cx} {o e value : Expr} {f : Str} {pos pos' tpos : Pos} {ta tv : TE}
end

section
variable {X : Cx} {pins : List (Addr × Obj)} {σ : St} {H : Hp} {s : Shared} {A : Around} {E : Value → Shared → Prop} {Q : Value → Shared → Prop} {c : Value} {b : Bool}
end
end L2

namespace L2
open PySem PySem.Spec PyProof.Rows

set_option genSizeOf false in
set_option genInjectivity false in
structure Room (k : Nat) (A : Around) : Prop where
  hd : A.handled = none
  dp : A.depth + 3 * k + 5 < recursionLimit
  un : A.units + 16 * k + 200 < cLine
theorem Room.mono {j k : Nat} {A : Around} (r : Room k A) (h : j ≤ k) : Room j A := ⟨r.hd, by have := r.dp; omega, by have := r.un; omega⟩
theorem Room.deeper {k : Nat} {A : Around} (r : Room (k + 1) A) (env : Env) : Room k (A.deeper env) :=
  ⟨r.hd, by have := r.dp; show A.depth + 1 + 3 * k + 5 < _; omega, by have := r.un; show A.units + 3 + 16 * k + 200 < _; omega⟩
theorem Room.depth {k : Nat} {A : Around} (r : Room k A) : A.depth < recursionLimit := by have := r.dp; omega
theorem Room.units {k : Nat} {A : Around} (r : Room k A) : A.units + 64 < cLine := by have := r.un; omega
noncomputable def tNil : TA := fun _ H Q => Q [] H
noncomputable def tCons (ta : TE) (tr : TA) : TA := fun σ H Q => ta σ H fun x H1 => tr σ H1 fun xs H2 => Q (x :: xs) H2
section
variable {X : Cx} {e : Expr} {es : List Expr} {te : TE} {t : TA} {pos : Pos}
theorem pa_nil : PA X [] tNil := fun _ _ _ _ H Q I h => Calls.spliced_nil ⟨[], H, I, .nil, h⟩
theorem pa_cons (ha : PE X e te) (hr : PA X es t) (hs : starEach (e :: es) X.env = (false, eval e X.env) :: starEach es X.env := by rfl) : PA X (e :: es) (tCons te t) := by
  intro pos pins s σ H Q I h
  rw [hs]
  show wpAny _ _ (spliced ((false, eval e X.env) :: backTo pos (starEach es X.env))) _ _ s
  refine Calls.spliced_cons (thn (ha pins s σ H _ I h) fun u s1 ⟨x, H1, I1, r1, q1⟩ => ?_)
  exact thn (hr pos pins s1 σ H1 _ I1 q1) <| by rintro us s2 ⟨xs, H2, I2, r2, q2⟩; exact ⟨x :: xs, H2, I2, .cons r1 r2, q2⟩

noncomputable def tTup (t : TA) : TE := fun σ H Q => t σ H fun xs H1 => xs.length ≤ sizeLine ∧ ∀ p, H1 p = none → Q (.ref p) (upd H1 p (.tup xs))
noncomputable def tLst (t : TA) : TE := fun σ H Q => t σ H fun xs H1 => xs.length ≤ sizeLine ∧ ∀ p, H1 p = none → Q (.ref p) (upd H1 p (.lst xs))
theorem pe_tup {x1} (h : PA X es t) : PE X (.Tuple es x1 pos) (tTup t) := by
  intro pins s σ H Q I hq
  refine wpAny_Tuple_spliced (thn (h pos pins s σ H _ I hq) fun us s1 ⟨xs, H1, I1, r, z, q⟩ => ⟨by rw [← r.length]; exact z, ?_⟩)
  have hf : H1 s1.heap.objs.size = none := I1.hok.fresh (Nat.le_refl _)
  refine ⟨.ref s1.heap.objs.size, upd H1 s1.heap.objs.size (.tup xs), I1.laid (t' := s1.toks) (fun b u e => Heap.get?_push_of_some _ e) (Nat.le_refl _) ?_, rfl, q _ hf⟩
  exact ⟨z, us, r, ⟨_, Heap.get?_push_size _ rfl, rfl, _, rfl⟩⟩
theorem pe_lst (h : PA X es t) : PE X (.List es pos) (tLst t) := by
  intro pins s σ H Q I hq
  refine wpAny_List_spliced (thn (h pos pins s σ H _ I hq) fun us s1 ⟨xs, H1, I1, r, z, q⟩ => ⟨by rw [← r.length]; exact z, ?_⟩)
  have hf : H1 s1.heap.objs.size = none := I1.hok.fresh (Nat.le_refl _)
  refine ⟨.ref s1.heap.objs.size, upd H1 s1.heap.objs.size (.lst xs), I1.laid (t' := s1.toks) (fun b u e => Heap.get?_push_of_some _ e) (Nat.le_refl _) ?_, rfl, q _ hf⟩
  exact ⟨z, us, 0, r, Heap.get?_push_size _ rfl⟩
end

noncomputable abbrev Sp := List V → Hp → VK → XK → Prop
noncomputable abbrev CXT := List Env → Hp → Shared → XK → Value → Shared → Prop

set_option genSizeOf false in
set_option genInjectivity false in
structure Env0 (P : Program) (w : World) (K : PySem.W.Frag) (mg : Str → Option Value) (base : Heap) (A : Around) (outer : List Env) (s : Shared) (H : Hp) : Prop where
  frames : A.frames = some outer
  mod : Mod K mg base
  bs : ∀ b o, base.get? b = some o → s.heap.get? b = some o ∧ H b = none
  bsz : base.objs.size ≤ s.heap.objs.size
  funs : s.heap.FunFrames base outer
  frf : ∀ b ∈ frs outer, H b = none
  hok : HOk P w H s.heap
  bare : AllBare s.gens
noncomputable def CE (outer : List Env) (P : Program) (w : World) (H : Hp) (s : Shared) (Q : VK) (u : Value) (s' : Shared) : Prop :=
  ∃ v H', s'.os = s.os ∧ AllBare s'.gens ∧ Un (frs outer) [] H H' s.heap s'.heap ∧ HOk P w H' s'.heap ∧ RelV v u ∧ Q v H'
noncomputable def CR (CX : CXT) (outer : List Env) (P : Program) (w : World) (H : Hp) (s : Shared) (Q : VK) (E : XK) (r : Result) (s' : Shared) : Prop :=
  match r with
  | .ok (.ret u) => CE outer P w H s Q u s'
  | .ok _ => False
  | .error e => CX outer H s E e s'
set_option genSizeOf false in
set_option genInjectivity false in
structure FnOk (P : Program) (w : World) (K : PySem.W.Frag) (mg : Str → Option Value) (base : Heap) (CX : CXT) (k : Nat) (f : Addr) (fd : FuncData) (ps : List Str) (sp : Sp) : Prop where
  len : ∀ vs H Q E, sp vs H Q E → vs.length = ps.length
  run : ∀ (A : Around) (outer : List Env) (s : Shared) (H : Hp) (args : Args) (us : List Value) (vs : List V) (Q : VK) (E : XK), Room k A → Env0 P w K mg base A outer s H → BindsTo s fd args (ps.zip us) → Vals vs us → sp vs H Q E →
    codeAny (model P w) A (.call (.ref f) args) (CR CX outer P w H s Q E) s
section
variable {X : Cx} {pins : List (Addr × Obj)} {σ : St} {H : Hp} {s s' : Shared}
theorem Inv.env0 (I : Inv X pins σ H s) : Env0 X.prog X.w X.K X.mg X.base X.A X.stack s H :=
  ⟨I.ok.frames, I.ok.mod, I.bs, Nat.le_trans I.ok.bsz I.sz, I.stack, I.stkFree, I.hok, I.bare⟩
theorem Inv.after {Q : VK} {u : Value} (I : Inv X pins σ H s) (h : CE X.stack X.prog X.w H s Q u s') : EP X pins σ Q u s' := by
  obtain ⟨v, H', os, bare, un, hok, r, q⟩ := h
  obtain ⟨hh, g, d, t, os'⟩ := s'
  obtain rfl : os' = s.os := os
  exact ⟨v, H', I.call (h' := hh) (g' := g) (d' := d) (t' := t) (ch := []) un hok bare (fun b z => absurd z (by simp)), r, q⟩
end

noncomputable def tCall (sp : Sp) (dvs : List V) (E : XK) (t : TA) : TE := fun σ H Q => t σ H fun vs H1 => sp (vs ++ dvs) H1 Q E
noncomputable def Binds (K : PySem.W.Frag) (fd : FuncData) (ps : List Str) (ds : List Value) : Prop :=
  ∀ (s : Shared) (us : List Value), K.In s.heap → (us ++ ds).length = ps.length → BindsTo s fd ⟨us, []⟩ (ps.zip (us ++ ds))
theorem Binds.all {K : PySem.W.Frag} {fd : FuncData} {ps : List Str} (h : ∀ us : List Value, us.length = ps.length → bindArgs fd ⟨us, []⟩ = pure (ps.zip us)) : Binds K fd ps [] := fun s us _ hl => by
  rw [List.append_nil] at hl ⊢
  exact .of_eq (h us hl)

noncomputable def Passes (CX : CXT) (X : Cx) (E : XK) : Prop := ∀ (pins : List (Addr × Obj)) (σ : St) (H : Hp) (s : Shared) (e : Value) (s' : Shared), Inv X pins σ H s → CX X.stack H s E e s' → X.xe e s'

section
variable {X : Cx} {CX : CXT} {k : Nat} {f C : Addr} {fd : FuncData} {ps : List Str} {sp : Sp} {dvs : List V} {ds : List Value} {E : XK} {x m : Str} {p pos apos : Pos} {e o : Expr} {es : List Expr} {ta : TE} {t : TA}

theorem run_fn {pins : List (Addr × Obj)} {σ : St} {H : Hp} {s : Shared} {Q : VK} {us : List Value} {vs : List V} (F : FnOk X.prog X.w X.K X.mg X.base CX k f fd ps sp) (hr : Room k X.A) (hb : Binds X.K fd ps ds) (hd : Vals dvs ds) (hx : Passes CX X E)
    (I : Inv X pins σ H s) (r : Vals vs us) (h : sp (vs ++ dvs) H Q E) : wpAny (model X.prog X.w) X.A (call (.ref f) us) (EP X pins σ Q) X.xe s := by
  have r2 : Vals (vs ++ dvs) (us ++ ds) := r.append hd
  have hl : (us ++ ds).length = ps.length := by rw [← r2.length]; exact F.len _ _ _ _ h
  refine wpAny_call (codeAny_mono (F.run X.A X.stack s H ⟨us, []⟩ (us ++ ds) (vs ++ dvs) Q E hr I.env0 (hb s us I.kIn hl) r2 h) fun r s' hq => ?_)
  cases r with
  | error e => exact hx pins σ H s e s' I hq
  | ok fl =>
    cases fl with
    | ret u => exact I.after hq
    | next => exact False.elim hq
    | brk => exact False.elim hq
    | cont => exact False.elim hq

theorem pe_call (F : FnOk X.prog X.w X.K X.mg X.base CX k f fd ps sp) (hr : Room k X.A) (hg : Gl X x) (hm : X.mg x = some (.ref f)) (hk : PySem.W.keepIn X.K (.ref f) = true) (hb : Binds X.K fd ps ds) (hd : Vals dvs ds) (hx : Passes CX X E)
    (ha : PA X (e :: es) t) (hdb : (x == ("__debug__" : Str)) = false := by decide) (he : starEach (e :: es) X.env = (false, eval e X.env) :: starEach es X.env := by rfl) (hpl : (backTo pos (starEach es X.env)).any (·.1) = false := by rfl) :
    PE X (.Call (.Name x p) (e :: es) [] pos) (tCall sp dvs E t) := by
  intro pins s σ H Q I h
  refine wpAny_Call_Name_kw (ld_glob I hg hm ?_ hdb)
  refine PySem.W.callWith_K (h₀ := X.base) I.ok.mod.kin hk (thn (ha pos pins s σ H _ I h) fun us s1 ⟨vs, H1, I1, r, q⟩ => ⟨I1.kIn, ?_⟩) he hpl
  exact run_fn F hr hb hd hx I1 r q
end

section
variable {X : Cx} {CX : CXT} {k : Nat} {f C : Addr} {fd : FuncData} {ps ks : List Str} {sp : Sp} {E : XK} {x m : Str} {p pos apos kpos : Pos} {e o : Expr} {es : List Expr} {kws : List Keyword} {te ta : TE} {t tk : TA} {nm : Option Str}
variable {g : List Value → List Value → List Value} {gV : List V → List V → List V}
end

set_option genSizeOf false in
set_option genInjectivity false in
structure FnScope (N P : List Str) (sc : Scope) : Prop where
  kind : sc.kind = .function
  co : sc.isCoroutine = false
  gen : sc.isGenerator = false
  nd : N.Nodup
  pre : N.take P.length = P
  par : ∀ x ∈ P, sc.names.lookup x = some .local ∨ sc.names.lookup x = some .cell
  nofree : ∀ y ∈ sc.names, y.2 ≠ .free

theorem bindL_out {kindOf : Str → Option NameKind} {x : Str} : ∀ {binds : List (Str × Value)} {m : Str → Option Value}, (∀ v, (x, v) ∉ binds) → bindL kindOf binds m x = m x
  | [], _, _ => rfl
  | (n, v) :: r, m, h => by
    unfold bindL
    rw [bindL_out fun w hw => h w (List.mem_cons_of_mem _ hw)]
    split
    · have : x ≠ n := by rintro rfl; exact h v List.mem_cons_self
      simp [this]
    · rfl
theorem bindC_out {kindOf : Str → Option NameKind} {x : Str} : ∀ {binds : List (Str × Value)} {m : Str → Option Value}, (∀ v, (x, v) ∉ binds) → bindC kindOf binds m x = m x
  | [], _, _ => rfl
  | (n, v) :: r, m, h => by
    unfold bindC
    rw [bindC_out fun w hw => h w (List.mem_cons_of_mem _ hw)]
    split
    · rfl
    · have : x ≠ n := by rintro rfl; exact h v List.mem_cons_self
      simp [this]
theorem bindL_get {kindOf : Str → Option NameKind} {x : Str} {v : Value} : ∀ {P : List Str} {vs : List Value} {i : Nat} {m : Str → Option Value}, P.Nodup → P[i]? = some x → vs[i]? = some v → kindOf x = some .local →
    bindL kindOf (P.zip vs) m x = some v
  | [], _, _, _, _, h, _, _ => by simp at h
  | _ :: _, [], _, _, _, _, h, _ => by simp at h
  | p :: P, w :: vs, 0, m, nd, h1, h2, hk => by
    simp at h1 h2; subst h1; subst h2
    show bindL kindOf ((p, w) :: P.zip vs) m p = _
    unfold bindL
    rw [bindL_out fun v hv => (List.nodup_cons.mp nd).1 (List.of_mem_zip hv).1, if_pos hk]
    simp
  | p :: P, w :: vs, i + 1, m, nd, h1, h2, hk => by
    show bindL kindOf ((p, w) :: P.zip vs) m x = _
    unfold bindL
    exact bindL_get (i := i) (List.nodup_cons.mp nd).2 (by simpa using h1) (by simpa using h2) hk
theorem bindC_get {kindOf : Str → Option NameKind} {x : Str} {v : Value} : ∀ {P : List Str} {vs : List Value} {i : Nat} {m : Str → Option Value}, P.Nodup → P[i]? = some x → vs[i]? = some v → kindOf x ≠ some .local →
    bindC kindOf (P.zip vs) m x = some v
  | [], _, _, _, _, h, _, _ => by simp at h
  | _ :: _, [], _, _, _, _, h, _ => by simp at h
  | p :: P, w :: vs, 0, m, nd, h1, h2, hk => by
    simp at h1 h2; subst h1; subst h2
    show bindC kindOf ((p, w) :: P.zip vs) m p = _
    unfold bindC
    rw [bindC_out fun v hv => (List.nodup_cons.mp nd).1 (List.of_mem_zip hv).1, if_neg hk]
    simp
  | p :: P, w :: vs, i + 1, m, nd, h1, h2, hk => by
    show bindC kindOf ((p, w) :: P.zip vs) m x = _
    unfold bindC
    exact bindC_get (i := i) (List.nodup_cons.mp nd).2 (by simpa using h1) (by simpa using h2) hk

noncomputable def start (N : List Str) (vs : List V) : St := vs.map some ++ List.replicate (N.length - vs.length) none

noncomputable def cxOf (CX : CXT) (P : Program) (w : World) (K : PySem.W.Frag) (mg : Str → Option Value) (base : Heap) (N : List Str) (qual : Str) (scope : Scope) (f : Addr) (cd : Value) (A : Around) (outer : List Env) (s : Shared) (H : Hp) (E : XK) : Cx where
  prog := P
  w := w
  K := K
  mg := mg
  base := base
  A := A.deeper (envOfC qual scope s.heap.objs.size f cd)
  N := N
  s₀ := s
  H₀ := H
  env := envOfC qual scope s.heap.objs.size f cd
  outer := outer
  stack := envOfC qual scope s.heap.objs.size f cd :: outer
  ex := []
  calm := true
  fn := fun _ => true
  pn := []
  xe := fun e s' => wpAny (model P w) (A.deeper (envOfC qual scope s.heap.objs.size f cd)) (leaving (envOfC qual scope s.heap.objs.size f cd) e) (fun _ s'' => CX outer H s E e s'') (fun e' s'' => CX outer H s E e' s'') s'

theorem cell_has {sc : Scope} {n : Nat} {x : Str} (h : sc.names.lookup x = some .cell) : ∃ c, (cellsFrom n sc.names []).lookup x = some c := by
  have q := PySem.W.cellsFrom_some sc.names n [] (.inl h)
  exact Option.isSome_iff_exists.mp q

theorem inv_start {CX : CXT} {P : Program} {w : World} {K : PySem.W.Frag} {mg : Str → Option Value} {base : Heap} {N ps : List Str} {qual : Str} {scope : Scope} {f : Addr} {cd : Value} {A : Around} {outer : List Env} {s s1 : Shared} {H : Hp} {E : XK} {us : List Value} {vs : List V}
    (S : FnScope N ps scope) (hd : A.handled = none) (e0 : Env0 P w K mg base A outer s H) (hl : vs.length = ps.length) (r : Vals vs us)
    (x : InCallC s s.heap.objs.size (bindL (envOfC qual scope s.heap.objs.size f cd).kindOf (ps.zip us) fun _ => none) (cellsFrom (s.heap.objs.size + 1) scope.names []) (bindC (envOfC qual scope s.heap.objs.size f cd).kindOf (ps.zip us) fun _ => none) s1) :
    Inv (cxOf CX P w K mg base N qual scope f cd A outer s H E) [] (start N vs) H s1 := by
  have hpl : ps.length ≤ N.length := by have := congrArg List.length S.pre; rw [List.length_take] at this; omega
  obtain ⟨h1, tk, rfl, hk⟩ := x.done
  have noA : ∀ b : Addr, b ∉ (cxOf CX P w K mg base N qual scope f cd A outer s H E).ex := fun b z => absurd (show b ∈ ([] : List Addr) from z) (by simp)
  refine ⟨⟨e0.mod, S.kind, rfl, rfl, Nat.le_refl _, fun y z c h1 h2 => ?_, fun y hy => ?_, fun y c _ h => ?_, fun _ => hd, Around.frames_deeper e0.frames, .inr ⟨rfl, rfl⟩, fun b z => absurd z (noA b), e0.bs, e0.bsz, fun b _ _ => noA b, fun b z => absurd z (noA b), e0.funs, e0.frf⟩,
    rfl, e0.bare, Un.kept hk, ⟨_, x.toInCall.ns, fun i y v h1 h2 h3 => ?_⟩, fun y c h => ⟨_, x.cell y c h⟩, e0.hok.fresh (Nat.le_refl _), fun y c h => ?_, fun p hp => absurd (show p ∈ ([] : List (Addr × Obj)) from hp) (by simp), e0.hok.kept hk, ?_⟩
  · exact name_of_addr x.apart (PySem.mem_of_lookup h1) (PySem.mem_of_lookup h2)
  · have hy : scope.names.lookup y = some .cell ∨ scope.names.lookup y = some .free := hy
    rcases hy with hy | hy
    · exact cell_has hy
    · exact absurd rfl (S.nofree _ (PySem.mem_of_lookup hy))
  · exact Nat.le_of_lt (x.above y c (PySem.mem_of_lookup h))
  · have hi : i < vs.length := by
      unfold start at h2
      by_cases hi : i < vs.length
      · exact hi
      · rw [List.getElem?_append_right (by simpa using hi)] at h2
        rw [List.getElem?_replicate] at h2
        split at h2 <;> cases h2
    have ha : vs[i]? = some v := by
      unfold start at h2
      rw [List.getElem?_append_left (by simpa using hi), List.getElem?_map] at h2
      cases e : vs[i]? with
      | none => rw [e] at h2; cases h2
      | some a => rw [e] at h2; cases h2; rfl
    obtain ⟨u, hu, rv⟩ := r.get ha
    have hp : ps[i]? = some y := by
      rw [← S.pre, List.getElem?_take_of_lt (by first | assumption | exact Nat.le_of_lt ‹_› | omega)]; exact h1
    have ndP : ps.Nodup := by rw [← S.pre]; exact S.nd.sublist (List.take_sublist _ _)
    refine ⟨u, rv, ?_⟩
    rcases S.par y (List.mem_of_getElem? hp) with k | k
    · exact .inl ⟨k, bindL_get ndP hp hu k⟩
    · obtain ⟨c, e⟩ := cell_has (n := s.heap.objs.size + 1) k
      refine .inr ⟨.inl k, c, e, ?_⟩
      have q := x.cell y c e
      rw [bindC_get ndP hp hu (by show scope.names.lookup y ≠ _; rw [k]; decide)] at q
      exact q
  · exact e0.hok.fresh (Nat.le_of_lt (x.above y c (PySem.mem_of_lookup h)))
  · unfold start
    show _ = N.length
    rw [List.length_append, List.length_map, List.length_replicate]
    omega

theorem fn_of {CX : CXT} {P : Program} {w : World} {K : PySem.W.Frag} {mg : Str → Option Value} {base : Heap} {k : Nat} {f : Addr} {name qual : Str} {params : Arguments} {body : List Stmt} {scope : Scope} {dV kV doc pm cdv ct oc : Value} {an od : Option Addr}
    {osl : Array (Option Value)} {N ps : List Str} {sp : Sp} (lk : K.lookup f = some ⟨oc, od, .func (PySem.W.fnOf name qual params body scope dV kV doc pm an cdv ct), osl⟩) (hcd : PySem.W.codeIn K cdv qual = true) (S : FnScope N ps scope)
    (len : ∀ vs H Q E, sp vs H Q E → vs.length = ps.length)
    (hbody : ∀ (A : Around) (outer : List Env) (s : Shared) (H : Hp) (vs : List V) (Q : VK) (E : XK), Room k (A.deeper (envOfC qual scope s.heap.objs.size f cdv)) → sp vs H Q E →
      ∃ t, PSs (cxOf CX P w K mg base N qual scope f cdv A outer s H E) body t ∧ t { nx := fun _ H' => Q .non H', rt := Q } (start N vs) H) :
    FnOk P w K mg base CX (k + 1) f (PySem.W.fnOf name qual params body scope dV kV doc pm an cdv ct) ps sp := by
  refine ⟨len, fun A outer s H args us vs Q E hr e0 hb r hsp => ?_⟩
  have hl := len _ _ _ _ hsp
  have KX : K.In s.heap := e0.mod.kin.keeps fun b o e => (e0.bs b o e).1
  have lim : s.heap.NoLimit := e0.mod.nolimit.keeps fun b o e => (e0.bs b o e).1
  have hkind : ∀ y ∈ ps.zip us, scope.names.lookup y.1 = some .local ∨ (scope.names.lookup y.1 = some .cell ∧ ((cellsFrom (s.heap.objs.size + 1) scope.names []).lookup y.1).isSome = true) := by
    rintro ⟨n, v⟩ hy
    rcases S.par n (List.of_mem_zip hy).1 with q | q
    · exact .inl q
    · exact .inr ⟨q, PySem.W.cellsFrom_some _ _ _ (.inl q)⟩
  refine codeAny_call_function hr.depth (KX _ _ lk) rfl S.co S.gen rfl (PySem.W.codeRec_of KX hcd) (hb _ _ _ _ ?_)
  refine wpAny_newFunctionEnv_cells S.kind hkind fun env he s1 x => ?_
  subst he
  refine ⟨lim.keeps x.toInCall.keep, codeAny_func ?_⟩
  obtain ⟨t, ht, hq⟩ := hbody A outer s H vs Q E (hr.deeper _) hsp
  have I : Inv (cxOf CX P w K mg base N qual scope f cdv A outer s H E) [] (start N vs) H s1 := inv_start S hr.hd e0 hl r x
  refine wpAny_mono (ht [] s1 (start N vs) H _ I hq) (fun fl s' hs => ?_) fun e s' hs => hs
  have fin : ∀ {σ' : St} {H' : Hp} {v : V} {u : Value}, Inv (cxOf CX P w K mg base N qual scope f cdv A outer s H E) [] σ' H' s' → RelV v u → Q v H' → CE outer P w H s Q u s' :=
    fun {σ' H' v u} J rv q => ⟨v, H', J.os, J.bare, J.base, J.hok, rv, q⟩
  cases fl with
  | ret u =>
    obtain ⟨v, σ', H', J, rv, q⟩ := hs
    exact fin J rv q
  | next =>
    obtain ⟨σ', H', J, q⟩ := hs
    exact fin (v := V.non) (u := Value.none) J rfl q
  | brk =>
    obtain ⟨_, _, _, q⟩ := hs
    exact False.elim q
  | cont =>
    obtain ⟨_, _, _, q⟩ := hs
    exact False.elim q
end L2

namespace L2
open PySem PySem.Spec PyProof.Rows
section
variable {X : Cx} {x : Str} {p pos : Pos} {e : Expr} {es : List Expr} {t : TA} {id T : String} {r : List V → Hp → VK → Prop}

noncomputable def tCB (r : List V → Hp → VK → Prop) (t : TA) : TE := fun σ H Q => t σ H fun vs H1 => r vs H1 Q
theorem pe_callB (hc : CallR X (.builtin id) r) (hg : Gl X x) (hm : X.mg x = none) (hv : bootBuiltins x = some (.builtin id)) (ha : PA X (e :: es) t) (hn : x ≠ "__name__" := by decide) (hdb : (x == ("__debug__" : Str)) = false := by decide)
    (he : starEach (e :: es) X.env = (false, eval e X.env) :: starEach es X.env := by rfl) (hpl : (backTo pos (starEach es X.env)).any (·.1) = false := by rfl) : PE X (.Call (.Name x p) (e :: es) [] pos) (tCB r t) := by
  intro pins s σ H Q I h
  refine wpAny_Call_Name_kw (ld_blt I hg hm hv ?_ hn hdb)
  exact PyProof.Rows.callWith_builtin1 (thn (ha pos pins s σ H _ I h) fun us s1 ⟨vs, H1, I1, r1, q1⟩ => hc pins s1 σ H1 vs us Q I1 r1 q1) he hpl
theorem pe_callTy (hc : CallR X (.type T) r) (hg : Gl X x) (hm : X.mg x = none) (hv : bootBuiltins x = some (.type T)) (ha : PA X (e :: es) t) (hn : x ≠ "__name__" := by decide) (hdb : (x == ("__debug__" : Str)) = false := by decide)
    (he : starEach (e :: es) X.env = (false, eval e X.env) :: starEach es X.env := by rfl) (hpl : (backTo pos (starEach es X.env)).any (·.1) = false := by rfl) : PE X (.Call (.Name x p) (e :: es) [] pos) (tCB r t) := by
  intro pins s σ H Q I h
  refine wpAny_Call_Name_kw (ld_blt I hg hm hv ?_ hn hdb)
  exact PyProof.Rows.callWith_type1 (thn (ha pos pins s σ H _ I h) fun us s1 ⟨vs, H1, I1, r1, q1⟩ => hc pins s1 σ H1 vs us Q I1 r1 q1) he hpl
end
end L2

namespace HT
open PySem PyProof.Rows

section
open PySem.SeqAt
open PySem.AutoSeq1 (wpAny_loadPart')
open PySem.MeetsSeq PySem.MeetsSeq2 PySem.MeetsSeq3

end

section
variable {prog : Program} {w : World} {A : Around} {E : Value → Shared → Prop} {s : Shared}

theorem cat_tup {t b : Addr} {vs ws : List Value} {Q : Value → Shared → Prop} (ht : IsTup s.heap t vs.toArray) (hb : IsTup s.heap b ws.toArray) (hv : vs ≠ [])
    (h1 : ws = [] → Q (.ref t) s) (h2 : ws ≠ [] → Q (.ref s.heap.objs.size) { s with heap := s.heap.push { cls := .type "tuple", data := .seq (vs ++ ws).toArray } })
    (hsz : vs.length + ws.length ≤ sizeLine) : wpAny (model prog w) A (binaryOp .Add (.ref t) (.ref b)) Q E s := by
  obtain ⟨⟨cls, dd, data, sl⟩, ho, hc, n, hd⟩ := id ht
  obtain ⟨⟨cls2, dd2, data2, sl2⟩, ho2, hc2, n2, hd2⟩ := id hb
  simp only at hc hd hc2 hd2
  subst hc hd hc2 hd2
  have e : vs.toArray ++ ws.toArray = (vs ++ ws).toArray := by simp
  by_cases hw : ws = []
  · exact concat_meets ⟨_, ho, rfl⟩ ⟨_, ho2, rfl⟩ noFill_tuple_add seq_tuple_add PySem.F.slot_tuple_add PySem.F.entry_tuple_add (PySem.F.args_tuple_add_2 _ _)
      (tuple_addW1 t b vs.toArray ws.toArray n n2 dd dd2 sl sl2 (by simpa using hv) (by simp [hw])) ⟨ho, ho2, h1 hw⟩
  · refine concat_meets ⟨_, ho, rfl⟩ ⟨_, ho2, rfl⟩ noFill_tuple_add seq_tuple_add PySem.F.slot_tuple_add PySem.F.entry_tuple_add (PySem.F.args_tuple_add_2 _ _)
      (tuple_addW2 t b vs.toArray ws.toArray n n2 dd dd2 sl sl2 (by simpa using hv) (by simpa using hw) (by rw [List.size_toArray, List.size_toArray]; exact hsz)) ⟨ho, ho2, ?_⟩
    rw [e]
    exact h2 hw

noncomputable def sIx (n d : Nat) : Option Int → Nat
  | none => d
  | some v => if v < 0 then (v + (n : Int)).toNat else min v.toNat n
theorem sIx_none (n d : Nat) : sIx n d none = d := rfl
theorem sIx_nat (n d k : Nat) : sIx n d (some (k : Int)) = min k n := by
  show (if (k : Int) < 0 then ((k : Int) + (n : Int)).toNat else min (k : Int).toNat n) = min k n
  rw [if_neg (by first | assumption | exact Nat.le_of_lt ‹_› | omega), Int.toNat_natCast]
theorem sIx_le (n d : Nat) (hd : d ≤ n) (o : Option Int) : sIx n d o ≤ n := by
  cases o with
  | none => exact hd
  | some v =>
    show (if v < 0 then (v + (n : Int)).toNat else min v.toNat n) ≤ n
    by_cases hv : v < 0
    · rw [if_pos hv]; omega
    · rw [if_neg hv]; exact Nat.min_le_right _ _
theorem clip_eq (v : Int) (n d : Nat) : (if v < 0 then max (v + (n : Int)) 0 else min v (n : Int)) = ((sIx n d (some v) : Nat) : Int) := by
  show (if v < 0 then max (v + (n : Int)) 0 else min v (n : Int)) = (((if v < 0 then (v + (n : Int)).toNat else min v.toNat n) : Nat) : Int)
  by_cases hv : v < 0
  · simp only [if_pos hv]; omega
  · simp only [if_neg hv]; omega
theorem adjust_gen (lo hi : Option Int) (n : Nat) : Builtin.Slice.sliceAdjust lo hi 1 (n : Int) = (((sIx n 0 lo : Nat) : Int), ((sIx n n hi : Nat) : Int)) := by
  have h1 : ¬ ((1 : Int) < 0) := by omega
  unfold Builtin.Slice.sliceAdjust
  simp only [h1, if_false]
  refine Prod.ext ?_ ?_
  · cases lo with
    | none => rfl
    | some v => exact clip_eq v n 0
  · cases hi with
    | none => rfl
    | some v => exact clip_eq v n n
theorem places_gen (i j : Nat) : Builtin.Slice.slicePlaces (i : Int) (j : Int) 1 = j - i := by
  unfold Builtin.Slice.slicePlaces
  have h1 : (1 : Int) > 0 := by omega
  simp only [h1, if_true, Int.ediv_one]
  split <;> omega
theorem slicePart_ {v : Value} {o : Option Int} {Q : Option Int → Shared → Prop} (p : IsPart v o) (h : Q o s) : wpAny (model prog w) A (Builtin.Slice.slicePartIndex v) Q E s := by
  cases p with
  | none => exact slicePart_none h
  | int i t => exact slicePart_int h
theorem sliceApplied_gen {sl : Addr} {vl vu : Value} {lo hi : Option Int} {n : Nat} {Q : Int × Int × Nat → Shared → Prop} (hs : s.heap.IsSliceOf sl vl vu .none) (pl : IsPart vl lo) (pu : IsPart vu hi)
    (h : Q (((sIx n 0 lo : Nat) : Int), 1, sIx n n hi - sIx n 0 lo) s) : wpAny (model prog w) A (Builtin.Slice.sliceApplied (.ref sl) (pure (n : Int))) Q E s := by
  obtain ⟨os, hos, hcs, hds⟩ := id hs
  unfold Builtin.Slice.sliceApplied Builtin.Slice.sliceFields
  refine wpAny_bind (wpAny_bind (wpAny_field hos hds (x := vl) rfl (wpAny_bind (wpAny_field hos hds (x := vu) rfl (wpAny_bind (wpAny_field hos hds (x := .none) rfl (wpAny_pure ?_)))))))
  refine wpAny_bind (slicePart_none ?_)
  show wpAny _ _ (if ((1 : Int) == 0) = true then _ else _) _ _ s
  rw [if_neg (by decide)]
  refine wpAny_bind (slicePart_ pl (wpAny_bind (slicePart_ pu (wpAny_bind (wpAny_pure ?_)))))
  show wpAny _ _ (match Builtin.Slice.sliceAdjust lo hi 1 (n : Int) with | (lo, hi) => pure (lo, (1 : Int), Builtin.Slice.slicePlaces lo hi 1)) _ _ s
  rw [adjust_gen lo hi n]
  show wpAny _ _ (pure (((sIx n 0 lo : Nat) : Int), (1 : Int), Builtin.Slice.slicePlaces ((sIx n 0 lo : Nat) : Int) ((sIx n n hi : Nat) : Int) 1)) _ _ s
  rw [places_gen]
  exact wpAny_pure h
theorem pick_gen (xs : Array Value) (i k : Nat) : ((List.range k).filterMap fun (m : Nat) => xs[((i : Int) + (m : Int) * 1).toNat]?).toArray = ((xs.toList.drop i).take k).toArray := by
  have e : (fun (m : Nat) => xs[((i : Int) + (m : Int) * 1).toNat]?) = fun m => xs[i + m]? := by
    funext m
    have : ((i : Int) + (m : Int) * 1).toNat = i + m := by omega
    rw [this]
  rw [e]
  have := pick_run xs i k
  rw [List.filterMap_map] at this
  have e2 : ((fun x => xs[x]?) ∘ fun x => i + x) = fun m => xs[i + m]? := rfl
  rw [e2] at this
  rw [this]

theorem getItem_tuple_cut {t sl : Addr} {items : Array Value} {vl vu : Value} {lo hi : Option Int} {Q : Value → Shared → Prop} (ht : IsTup s.heap t items) (hs : s.heap.IsSliceOf sl vl vu .none) (pl : IsPart vl lo) (pu : IsPart vu hi)
    (hw : ¬ (sIx items.size 0 lo = 0 ∧ sIx items.size items.size hi = items.size))
    (h : Q (.ref s.heap.objs.size) { s with heap := s.heap.push { cls := .type "tuple", data := .seq ((items.toList.drop (sIx items.size 0 lo)).take (sIx items.size items.size hi - sIx items.size 0 lo)).toArray } })
    (hsz : items.size ≤ sizeLine) : wpAny (model prog w) A (getItem (.ref t) (.ref sl)) Q E s := by
  have htake : sizeOk (.seq ((items.toList.drop (sIx items.size 0 lo)).take (sIx items.size items.size hi - sIx items.size 0 lo)).toArray) := by
    show ((items.toList.drop (sIx items.size 0 lo)).take (sIx items.size items.size hi - sIx items.size 0 lo)).toArray.size ≤ sizeLine
    rw [List.size_toArray, List.length_take, List.length_drop, Array.length_toList]
    omega
  have hj : sIx items.size items.size hi ≤ items.size := sIx_le _ _ (Nat.le_refl _) hi
  obtain ⟨os, hos, hcs, hds⟩ := id hs
  have hTs : s.TypeIs (.ref sl) "slice" := ⟨os, hos, hcs⟩
  unfold getItem
  try with_reducible refine wpAny_holding ?_
  first | refine wpAny_bind (wpAny_pure ?_) | skip
  refine wpAny_bind (wpAny_sequenceKey ht.typeIs (by decide) ?_)
  refine wpAny_bind (wpAny_callSpecial?_slot (name := Str.ofString "__getitem__") ht.typeIs PyProof.Rows.slot_tuple_getitem
    (wpAny_call_entry PyProof.Rows.slot_tuple_getitem ht.typeIs entry_tuple_getitem ?_ (args_tuple_getitem _ _)))
  show wpAny _ _ (Builtin.Tuple.tupleItemsOf (.ref t) >>= _) _ _ s
  refine wpAny_bind (tupleItemsOf_ ht ?_)
  refine wpAny_bind (wpAny_typeOf hTs ?_)
  rw [if_pos (by decide)]
  refine wpAny_bind (sliceApplied_gen hs pl pu ?_)
  have hno : ¬ ((((sIx items.size 0 lo : Nat) : Int) == 0 && (1 : Int) == 1 && (sIx items.size items.size hi - sIx items.size 0 lo) == items.size) = true) := by
    intro q
    rw [Bool.and_eq_true, Bool.and_eq_true] at q
    have q1 : ((sIx items.size 0 lo : Nat) : Int) = 0 := eq_of_beq q.1.1
    have q2 : sIx items.size items.size hi - sIx items.size 0 lo = items.size := eq_of_beq q.2
    exact hw ⟨by omega, by omega⟩
  show wpAny _ _ (if (((sIx items.size 0 lo : Nat) : Int) == 0 && (1 : Int) == 1 && (sIx items.size items.size hi - sIx items.size 0 lo) == items.size) = true then _ else _) _ _ s
  rw [if_neg hno, pick_gen]
  first
    | exact wpAny_bind (m := Builtin.Tuple.tupleExact _) (wpAny_newObj_type (wpAny_pure ⟨_, rfl, wpAny_pure h⟩) htake)
    | exact wpAny_bind (m := Builtin.Tuple.tupleExact _) (wpAny_newObj_type (wpAny_bind (wpAny_pure (wpAny_pure ⟨_, rfl, wpAny_pure h⟩))) htake)
    | exact wpAny_bind (wpAny_bind (m := Builtin.Tuple.tupleExact _) (wpAny_newObj_type (wpAny_pure (wpAny_pure ⟨_, rfl, wpAny_pure h⟩)) htake))
    | exact wpAny_bind (wpAny_bind (m := Builtin.Tuple.tupleExact _) (wpAny_newObj_type (wpAny_pure ⟨_, rfl, wpAny_pure h⟩) htake))
end
end HT

namespace L2
open PySem PySem.Spec PyProof.Rows

noncomputable abbrev TO := St → Hp → (Option Int → Hp → Prop) → Prop
noncomputable def PO (X : Cx) (e : Option Expr) (t : TO) : Prop :=
  ∀ (pins : List (Addr × Obj)) (s : Shared) (σ : St) (H : Hp) (Q : Option Int → Hp → Prop), Inv X pins σ H s → t σ H Q →
    wpAny (model X.prog X.w) X.A (evalPart e X.env) (fun u s' => ∃ o H', Inv X pins σ H' s' ∧ IsPart u o ∧ Q o H') X.xe s
noncomputable def tNoPart : TO := fun _ H Q => Q none H
noncomputable def tPart (t : TE) : TO := fun σ H Q => t σ H fun x H1 => ∃ i, x = .int i ∧ Q (some i) H1

section
variable {X : Cx} {e : Expr} {te : TE} {lo hi : Option Expr} {tl th : TO} {pos p2 : Pos}

theorem po_none : PO X none tNoPart := by
  intro pins s σ H Q I h
  rw [evalPart_none]
  exact wpAny_pure ⟨none, H, I, .none, h⟩
theorem po_some (h : PE X e te) : PO X (some e) (tPart te) := by
  intro pins s σ H Q I hw
  rw [evalPart_some]
  refine thn (h pins s σ H _ I hw) ?_
  rintro u s1 ⟨x, H1, I1, r1, q1⟩
  obtain ⟨i, rfl, q⟩ := q1
  obtain ⟨t, rfl⟩ := r1
  exact ⟨some i, H1, I1, .int i t, q⟩

noncomputable def SlR (X : Cx) (r : V → Option Int → Option Int → Hp → VK → Prop) : Prop :=
  ∀ (pins : List (Addr × Obj)) (s : Shared) (σ : St) (H : Hp) (x : V) (v vl vu : Value) (lo hi : Option Int) (sl : Addr) (Q : VK), Inv X pins σ H s → RelV x v → s.heap.IsSliceOf sl vl vu .none → IsPart vl lo → IsPart vu hi → r x lo hi H Q →
    ∃ T id, typeLookup (.type T) "__getitem__" = pure (some (.builtin id)) ∧ s.TypeIs v T ∧ wpAny (model X.prog X.w) X.A (getItem v (.ref sl)) (EP X pins σ Q) X.xe s
theorem SlR.or {r r' : V → Option Int → Option Int → Hp → VK → Prop} (h : SlR X r) (h' : SlR X r') : SlR X (fun x lo hi H Q => r x lo hi H Q ∨ r' x lo hi H Q) := by
  intro pins s σ H x v vl vu lo hi sl Q I rx hs pl pu q
  rcases q with q | q
  · exact h pins s σ H x v vl vu lo hi sl Q I rx hs pl pu q
  · exact h' pins s σ H x v vl vu lo hi sl Q I rx hs pl pu q
noncomputable def tSl (r : V → Option Int → Option Int → Hp → VK → Prop) (te : TE) (tl th : TO) : TE := fun σ H Q => te σ H fun x H1 => tl σ H1 fun l H2 => th σ H2 fun u H3 => r x l u H3 Q
theorem pe_slice {r : V → Option Int → Option Int → Hp → VK → Prop} (hr : SlR X r) (he : PE X e te) (hl : PO X lo tl) (hu : PO X hi th) : PE X (.Subscript e (.Slice lo hi none p2) pos) (tSl r te tl th) := by
  intro pins s σ H Q I h
  refine Subscript_ (thn (he pins s σ H _ I h) fun v s1 ⟨x, H1, I1, r1, q1⟩ => ?_)
  refine wpAny_Slice (thn (hl pins s1 σ H1 _ I1 q1) fun vl s2 ⟨l, H2, I2, pl, q2⟩ => thn (hu pins s2 σ H2 _ I2 q2) fun vu s3 ⟨u, H3, I3, pu, q3⟩ => ?_)
  rw [evalPart_none]
  refine wpAny_pure ?_
  have I4 : Inv X pins σ H3 { s3 with heap := s3.heap.push { cls := .type "slice", data := .fields #[vl, vu, .none] } } := I3.kept (t' := s3.toks) fun b ob q => Heap.get?_push_of_some _ q
  obtain ⟨T, id, hT, ht, hg⟩ := hr pins { s3 with heap := s3.heap.push { cls := .type "slice", data := .fields #[vl, vu, .none] } } σ H3 x v vl vu l u s3.heap.objs.size Q I4 r1 (Heap.IsSliceOf.new ..) pl pu q3
  show wpAny (model X.prog X.w) X.A (subscriptTail e (.Slice lo hi none p2) v (.ref s3.heap.objs.size)) (EP X pins σ Q) X.xe { s3 with heap := s3.heap.push { cls := .type "slice", data := .fields #[vl, vu, .none] } }
  exact tail_any (ops := [.ref s3.heap.objs.size, v]) ht hT hg (by with_unfolding_all rfl)

noncomputable def cutV (xs : List V) (lo hi : Option Int) : List V := (xs.drop (HT.sIx xs.length 0 lo)).take (HT.sIx xs.length xs.length hi - HT.sIx xs.length 0 lo)
theorem cutV_length (xs : List V) (lo hi : Option Int) : (cutV xs lo hi).length ≤ xs.length := by
  unfold cutV
  rw [List.length_take, List.length_drop]
  omega
noncomputable def rSlT (K : PySem.W.Frag) : V → Option Int → Option Int → Hp → VK → Prop := fun x lo hi H Q => ∃ a xs, x = .ref a ∧ SqT K H a xs ∧
  ¬ (HT.sIx xs.length 0 lo = 0 ∧ HT.sIx xs.length xs.length hi = xs.length) ∧ ∀ p, H p = none → Q (.ref p) (upd H p (.tup (cutV xs lo hi)))
theorem sl_tup : SlR X (rSlT X.K) := by
  intro pins s σ H x v vl vu lo hi sl Q I rx hs pl pu h
  obtain ⟨a, xs, rfl, hx, hw, q⟩ := h
  cases rx
  obtain ⟨its, r, ht, hz⟩ := I.tuple hx
  have hlen : its.toArray.size = xs.length := by rw [List.size_toArray]; exact r.length.symm
  refine ⟨"tuple", _, PyProof.Rows.slot_tuple_getitem.lookup, ht.typeIs, ?_⟩
  refine HT.getItem_tuple_cut ht hs pl pu (by rw [hlen]; exact hw) ?_ (by rw [hlen]; exact hz)
  rw [hlen]
  refine ⟨.ref s.heap.objs.size, _, I.laid (t' := s.toks) (o := .tup (cutV xs lo hi)) (fun b ob q => Heap.get?_push_of_some _ q) (Nat.le_refl _) ?_, rfl, q _ (I.hok.fresh (Nat.le_refl _))⟩
  exact ⟨Nat.le_trans (cutV_length xs lo hi) hz, _, (r.drop (HT.sIx xs.length 0 lo)).take (HT.sIx xs.length xs.length hi - HT.sIx xs.length 0 lo), IsTup.new _ _⟩

noncomputable def rCatT (K : PySem.W.Frag) : R2 := fun x y H Q => ∃ a b xs ys, x = .ref a ∧ y = .ref b ∧ SqT K H a xs ∧ SqT K H b ys ∧ xs ≠ [] ∧ xs.length + ys.length ≤ sizeLine ∧
  (ys = [] → Q (.ref a) H) ∧ (ys ≠ [] → ∀ p, H p = none → Q (.ref p) (upd H p (.tup (xs ++ ys))))
theorem Vals.nil_iff {xs : List V} {us : List Value} (r : Vals xs us) : us = [] ↔ xs = [] := by
  cases r with
  | nil => simp
  | cons _ _ => simp
theorem op_catT : OpR X (binaryOp .Add) (rCatT X.K) := by
  intro pins s σ H x y v u Q I rx ry h
  obtain ⟨a, b, xs, ys, rfl, rfl, ha, hb, hx, hz, q1, q2⟩ := h
  cases rx
  cases ry
  obtain ⟨its, r1, p1, _⟩ := I.tuple ha
  obtain ⟨its2, r2, p2, _⟩ := I.tuple hb
  refine HT.cat_tup p1 p2 (fun z => hx (r1.nil_iff.mp z)) (fun z => ⟨.ref a, H, I, rfl, q1 (r2.nil_iff.mp z)⟩) (fun z => ?_) (by rw [← r1.length, ← r2.length]; exact hz)
  refine ⟨.ref s.heap.objs.size, _, I.laid (t' := s.toks) (o := .tup (xs ++ ys)) (fun b ob q => Heap.get?_push_of_some _ q) (Nat.le_refl _) ?_, rfl, q2 (fun w => z (r2.nil_iff.mpr w)) _ (I.hok.fresh (Nat.le_refl _))⟩
  exact ⟨by rw [List.length_append]; exact hz, _, r1.append r2, IsTup.new _ _⟩
end
end L2

namespace L2
open PySem PySem.Spec PyProof.Rows

noncomputable def ixN (n : Nat) (i : Int) : Option Nat := if 0 ≤ i then (if i < n then some i.toNat else none) else if -(n : Int) ≤ i then some (i + n).toNat else none
noncomputable def atI {α : Type} (xs : List α) (i : Int) : Option α := (ixN xs.length i).bind fun j => xs[j]?
theorem ixN_seq {n : Nat} {i : Int} {j : Nat} (h : ixN n i = some j) : seqIndex? i n = some j ∧ j < n ∧ -(n : Int) ≤ i ∧ i < n := by
  unfold ixN at h
  by_cases h0 : 0 ≤ i
  · rw [if_pos h0] at h
    by_cases h1 : i < n
    · rw [if_pos h1] at h
      have e : i.toNat = j := Option.some.inj h
      exact ⟨by rw [seqIndex_of h0 h1, e], by omega, by omega, h1⟩
    · rw [if_neg h1] at h; cases h
  · rw [if_neg h0] at h
    by_cases h1 : -(n : Int) ≤ i
    · rw [if_pos h1] at h
      have e : (i + n).toNat = j := Option.some.inj h
      exact ⟨by rw [seqIndex_neg (by first | assumption | exact Nat.le_of_lt ‹_› | omega) h1, e], by omega, h1, by omega⟩
    · rw [if_neg h1] at h; cases h
theorem atI_get {α : Type} {xs : List α} {i : Int} {v : α} (h : atI xs i = some v) : ∃ j, seqIndex? i xs.length = some j ∧ xs[j]? = some v ∧ j < xs.length ∧ -(xs.length : Int) ≤ i ∧ i < xs.length := by
  unfold atI at h
  cases e : ixN xs.length i with
  | none => rw [e] at h; cases h
  | some j =>
    rw [e] at h
    obtain ⟨h1, h2, h3, h4⟩ := ixN_seq e
    exact ⟨j, h1, h, h2, h3, h4⟩
theorem atI_nat {α : Type} {xs : List α} {j : Nat} {v : α} (h : xs[j]? = some v) : atI xs (j : Int) = some v := by
  have hj : j < xs.length := (List.getElem?_eq_some_iff.mp h).1
  have e : ixN xs.length (j : Int) = some j := by
    unfold ixN
    rw [if_pos (by first | assumption | exact Nat.le_of_lt ‹_› | omega), if_pos (by first | assumption | exact Nat.le_of_lt ‹_› | omega)]; simp
  unfold atI; rw [e]; exact h
theorem atI_last {α : Type} (xs : List α) (v : α) : atI (xs ++ [v]) (-1) = some v := by
  have hl : (xs ++ [v]).length = xs.length + 1 := by simp
  have e : ixN (xs ++ [v]).length (-1) = some xs.length := by
    unfold ixN
    rw [hl, if_neg (by decide), if_pos (by first | assumption | exact Nat.le_of_lt ‹_› | omega)]
    congr 1
    omega
  unfold atI
  rw [e]
  show (xs ++ [v])[xs.length]? = some v
  simp

noncomputable def PlainIx (b : Expr) : Prop := ∀ o i, subscripted b false o i = operate [o, i] (getItem o i)
noncomputable def IxR (X : Cx) (r : R2) : Prop :=
  ∀ (value slice : Expr) (pins : List (Addr × Obj)) (s : Shared) (σ : St) (H : Hp) (x y : V) (v u : Value) (Q : VK), Inv X pins σ H s → RelV x v → RelV y u → r x y H Q →
    subscripted slice false v u = operate [v, u] (getItem v u) → wpAny (model X.prog X.w) X.A (subscriptTail value slice v u) (EP X pins σ Q) X.xe s
noncomputable def MtR (X : Cx) (id : String) (r : V → List V → Hp → VK → Prop) : Prop :=
  ∀ (pins : List (Addr × Obj)) (s : Shared) (σ : St) (H : Hp) (x : V) (xs : List V) (v : Value) (us : List Value) (Q : VK), Inv X pins σ H s → RelV x v → Vals xs us → r x xs H Q →
    wpAny (model X.prog X.w) X.A (call (.builtin id) (v :: us)) (EP X pins σ Q) X.xe s
section
variable {X : Cx} {a b : Expr} {ta tb : TE} {pos : Pos}
theorem IxR.or {r r' : R2} (h : IxR X r) (h' : IxR X r') : IxR X (fun x y H Q => r x y H Q ∨ r' x y H Q) := by
  intro value slice pins s σ H x y v u Q I rx ry q hs
  rcases q with q | q
  · exact h value slice pins s σ H x y v u Q I rx ry q hs
  · exact h' value slice pins s σ H x y v u Q I rx ry q hs
theorem pe_ix {r : R2} (hr : IxR X r) (ha : PE X a ta) (hb : PE X b tb) (hs : PlainIx b) : PE X (.Subscript a b pos) (tOp r ta tb) := by
  intro pins s σ H Q I h
  exact Subscript_ (binT ha hb I h fun v u s2 x y H2 I2 rx ry q => hr a b pins s2 σ H2 x y v u Q I2 rx ry q (hs _ _))

noncomputable def rIxL (K : PySem.W.Frag) : R2 := fun x y H Q => ∃ p xs i v, x = .ref p ∧ y = .int i ∧ SqL K H p xs ∧ atI xs i = some v ∧ Q v H
noncomputable def rIxT (K : PySem.W.Frag) : R2 := fun x y H Q => ∃ p xs i v, x = .ref p ∧ y = .int i ∧ SqT K H p xs ∧ atI xs i = some v ∧ Q v H
noncomputable def rIxS : R2 := fun x y H Q => ∃ z i c, x = .str z ∧ y = .int i ∧ z.length ≤ sizeLine ∧ atI z.cps.toList i = some c ∧ Q (.str ⟨#[c]⟩) H
theorem ix_list : IxR X (rIxL X.K) := by
  intro value slice pins s σ H x y v u Q I rx ry h hs
  obtain ⟨p, xs, i, z, rfl, rfl, hq, he, q⟩ := h
  cases rx
  obtain ⟨t, rfl⟩ := ry
  obtain ⟨its, r, pl, hz⟩ := I.list hq
  obtain ⟨j, h1, h2, h3, h4, h5⟩ := atI_get he
  obtain ⟨w, ew, rw'⟩ := r.get h2
  have hl := r.length
  have hn := line63
  have fin : EP X pins σ Q w s := ⟨z, H, I, rw', q⟩
  by_cases h0 : 0 ≤ i
  · have hj : i.toNat = j := by
      rw [seqIndex_of h0 h5] at h1
      exact Option.some.inj h1
    exact item_listR pl.isList h0 (by first | assumption | exact Nat.le_of_lt ‹_› | omega) (by rw [hj]; simpa using ew) fin hs
  · have hj : (i + (its.toArray.size : Int)).toNat = j := by
      rw [seqIndex_neg (by first | assumption | exact Nat.le_of_lt ‹_› | omega) h4] at h1
      rw [List.size_toArray, ← hl]
      exact Option.some.inj h1
    exact subscriptTail_builtinR (x := w) pl.isList.typeIs slot_list_getitem.lookup
      (wpAny_getItem_list_neg (Q := fun r s' => r = w ∧ EP X pins σ Q r s') pl.isList (by first | assumption | exact Nat.le_of_lt ‹_› | omega) (by rw [List.size_toArray] <;> omega) (by first | assumption | exact Nat.le_of_lt ‹_› | omega) (by rw [hj]; simpa using ew) ⟨rfl, fin⟩) hs
theorem ix_tup : IxR X (rIxT X.K) := by
  intro value slice pins s σ H x y v u Q I rx ry h hs
  obtain ⟨p, xs, i, z, rfl, rfl, hq, he, q⟩ := h
  cases rx
  obtain ⟨t, rfl⟩ := ry
  obtain ⟨its, r, pl, hz⟩ := I.tuple hq
  obtain ⟨j, h1, h2, h3, h4, h5⟩ := atI_get he
  obtain ⟨w, ew, rw'⟩ := r.get h2
  have hl := r.length
  have hn := line63
  have fin : EP X pins σ Q w s := ⟨z, H, I, rw', q⟩
  exact subscriptTail_builtinR (x := w) pl.typeIs slot_tuple_getitem.lookup
    (getItem_tuple (j := j) (Q := fun r s' => r = w ∧ EP X pins σ Q r s') pl (by first | assumption | exact Nat.le_of_lt ‹_› | omega) (by first | assumption | exact Nat.le_of_lt ‹_› | omega) (by rw [List.size_toArray, ← hl]; exact h1) (by simpa using ew) ⟨rfl, fin⟩) hs
theorem ix_str : IxR X rIxS := by
  intro value slice pins s σ H x y v u Q I rx ry h hs
  obtain ⟨z, i, c, rfl, rfl, hz, he, q⟩ := h
  obtain ⟨t, rfl⟩ := rx
  obtain ⟨t', rfl⟩ := ry
  obtain ⟨j, h1, h2, h3, h4, h5⟩ := atI_get he
  have hl : z.cps.toList.length = z.length := by simp [Str.length]
  rw [hl] at h1 h4 h5
  have hn := line63
  exact tail_any (typeIs_str s z t) slot_str_getitem.lookup (getItem_str (c := c) (by
    have e1 : decide (i < -(2 ^ 63 : Int)) = false := decide_eq_false (by first | assumption | exact Nat.le_of_lt ‹_› | omega)
    have e2 : decide (i ≥ 2 ^ 63) = false := decide_eq_false (by first | assumption | exact Nat.le_of_lt ‹_› | omega)
    rw [e1, e2, Bool.or_false]) (by rw [h1]; simpa using h2) ⟨.str ⟨#[c]⟩, H, I.tok _, ⟨_, rfl⟩, q⟩) hs
noncomputable def rIx (K : PySem.W.Frag) : R2 := fun x y H Q => rIxL K x y H Q ∨ rIxT K x y H Q ∨ rIxS x y H Q
theorem ix_seq : IxR X (rIx X.K) := ix_list.or (ix_tup.or ix_str)

theorem slice_bounds (lo hi : Option Int) (n : Nat) : (sliceBounds lo hi none n).1 = ((HT.sIx n 0 lo : Nat) : Int) ∧ (sliceBounds lo hi none n).2.1 = ((HT.sIx n n hi : Nat) : Int) ∧ (sliceBounds lo hi none n).2.2 = 1 := by
  refine ⟨?_, ?_, rfl⟩
  · cases lo with
    | none => simp [sliceBounds, HT.sIx]
    | some i =>
      simp only [sliceBounds, HT.sIx, Option.getD_none, show (1 : Int) > 0 by decide, if_true]
      by_cases h : i < 0
      · simp only [h, if_true] <;> omega
      · simp only [h, if_false] <;> omega
  · cases hi with
    | none => simp [sliceBounds, HT.sIx]
    | some i =>
      simp only [sliceBounds, HT.sIx, Option.getD_none, show (1 : Int) > 0 by decide, if_true]
      by_cases h : i < 0
      · simp only [h, if_true] <;> omega
      · simp only [h, if_false] <;> omega
theorem slicePick_cut (its : List Value) (lo hi : Option Int) : slicePick its.toArray lo hi none = ((its.drop (HT.sIx its.length 0 lo)).take (HT.sIx its.length its.length hi - HT.sIx its.length 0 lo)).toArray := by
  obtain ⟨h1, h2, h3⟩ := slice_bounds lo hi its.toArray.size
  unfold slicePick
  rw [h1, h2, h3]
  simp only [sliceRange_one, pick_run, List.size_toArray] <;> rfl
noncomputable def rSlL (K : PySem.W.Frag) : V → Option Int → Option Int → Hp → VK → Prop := fun x lo hi H Q => ∃ a xs, x = .ref a ∧ SqL K H a xs ∧ ∀ p, H p = none → Q (.ref p) (upd H p (.lst (cutV xs lo hi)))
theorem sl_list : SlR X (rSlL X.K) := by
  intro pins s σ H x v vl vu lo hi sl Q I rx hs pl pu h
  obtain ⟨a, xs, rfl, hx, q⟩ := h
  cases rx
  obtain ⟨its, r, ht, hz⟩ := I.list hx
  have hlen := r.length
  refine ⟨"list", _, slot_list_getitem.lookup, ht.isList.typeIs, ?_⟩
  refine wpAny_getItem_list_slice ht.isList hs pl pu .none (by simp) ?_ (by rw [List.size_toArray] <;> omega)
  rw [slicePick_cut, ← hlen]
  refine ⟨.ref s.heap.objs.size, _, I.laid (t' := s.toks) (o := .lst (cutV xs lo hi)) (fun b ob q => Heap.get?_push_of_some _ q) (Nat.le_refl _) ?_, rfl, q _ (I.hok.fresh (Nat.le_refl _))⟩
  exact ⟨Nat.le_trans (cutV_length xs lo hi) hz, _, 0, (r.drop (HT.sIx xs.length 0 lo)).take (HT.sIx xs.length xs.length hi - HT.sIx xs.length 0 lo), Heap.get?_push_size _ rfl⟩

theorem call_len_seq : CallR X (.builtin "len") (fun xs H Q => ∃ p ys, xs = [.ref p] ∧ (SqL X.K H p ys ∨ SqT X.K H p ys) ∧ Q (.int ys.length) H) := by
  intro pins s σ H xs us Q I r h
  obtain ⟨p, ys, rfl, hq, q⟩ := h
  obtain ⟨u, rfl, rx⟩ := vals1 r
  cases rx
  have hn := line63
  rcases hq with hq | hq
  · obtain ⟨its, r', pl, hz⟩ := I.list hq
    have hlen := r'.length
    exact Calls.call_len_list pl.isList (by simp only [List.size_toArray] <;> omega) ⟨.int ys.length, H, I.tok _, ⟨s.toks + 1, by rw [List.size_toArray, hlen]⟩, q⟩
  · obtain ⟨its, r', pl, hz⟩ := I.tuple hq
    have hlen := r'.length
    exact len_tuple pl (by simp only [List.size_toArray] <;> omega) ⟨.int ys.length, H, I.tok _, ⟨s.toks + 1, by rw [List.size_toArray, hlen]⟩, q⟩
theorem call_len_str : CallR X (.builtin "len") (fun xs H Q => ∃ z, xs = [.str z] ∧ z.length ≤ sizeLine ∧ Q (.int z.length) H) := by
  intro pins s σ H xs us Q I r h
  obtain ⟨z, rfl, hz, q⟩ := h
  obtain ⟨u, rfl, t, rfl⟩ := vals1 r
  have hn := line63
  exact len_str (by first | assumption | exact Nat.le_of_lt ‹_› | omega) ⟨.int z.length, H, I.tok _, ⟨_, rfl⟩, q⟩
theorem CallR.or {f : Value} {r r' : List V → Hp → VK → Prop} (h : CallR X f r) (h' : CallR X f r') : CallR X f (fun xs H Q => r xs H Q ∨ r' xs H Q) := by
  intro pins s σ H xs us Q I rs q
  rcases q with q | q
  · exact h pins s σ H xs us Q I rs q
  · exact h' pins s σ H xs us Q I rs q
theorem call_tuple_of : CallR X (.type "tuple") (fun xs H Q => ∃ p ys, xs = [.ref p] ∧ ((SqL X.K H p ys ∧ ∀ l, H l = none → Q (.ref l) (upd H l (.tup ys))) ∨ (SqT X.K H p ys ∧ Q (.ref p) H))) := by
  intro pins s σ H xs us Q I r h
  obtain ⟨p, ys, rfl, h⟩ := h
  obtain ⟨u, rfl, rx⟩ := vals1 r
  cases rx
  rcases h with ⟨hq, q⟩ | ⟨hq, q⟩
  · obtain ⟨its, r', pl, hz⟩ := I.list hq
    have hlen := r'.length
    refine call_tuple_list pl.isList (fun h' kp => ?_) (by simp only [List.size_toArray] <;> omega)
    have I1 : Inv X pins σ H { s with heap := h' } := I.kept (t' := s.toks) kp
    have I2 : Inv X pins σ (upd H h'.objs.size (.tup ys)) { s with heap := h'.push { cls := .type "tuple", data := .seq its.toArray } } :=
      I1.laid (t' := s.toks) (fun b o e => Heap.get?_push_of_some _ e) (Nat.le_refl _) (show ObjOk X.prog X.w _ _ _ (.tup ys) from ⟨hz, its, r', IsTup.new _ _⟩)
    exact ⟨.ref h'.objs.size, _, I2, rfl, q _ (I1.hok.fresh (Nat.le_refl _))⟩
  · obtain ⟨its, r', pl, hz⟩ := I.tuple hq
    exact call_tuple_same pl ⟨.ref p, H, I, rfl, q⟩

noncomputable def tyV (K : PySem.W.Frag) (T : String) (x : V) (H : Hp) : Prop := match x with
  | .str _ => T = "str"
  | .int _ => T = "int"
  | .ref p => (T = "list" ∧ ∃ xs, SqL K H p xs) ∨ (T = "tuple" ∧ ∃ o, K.lookup p = some o ∧ o.cls = .type "tuple" ∧ o.dict = none) ∨
      (T = "dict" ∧ ((∃ kvs, H p = some (.dK kvs)) ∨ ∃ kvs, H p = some (.dT kvs))) ∨ (T = "set" ∧ ∃ S n, H p = some (.set S n))
  | _ => False
theorem tyV_is {pins : List (Addr × Obj)} {σ : St} {H : Hp} {s : Shared} {T : String} {x : V} {v : Value} (I : Inv X pins σ H s) (r : RelV x v) (ty : tyV X.K T x H) :
    s.TypeIs v T ∧ ∀ a, v = .ref a → ∃ ob, s.heap.get? a = some ob ∧ ob.dict = none := by
  cases x with
  | str z =>
    obtain ⟨t, rfl⟩ := r
    cases (show T = "str" from ty)
    exact ⟨typeIs_str s z t, fun _ e => nomatch e⟩
  | int i =>
    obtain ⟨t, rfl⟩ := r
    cases (show T = "int" from ty)
    exact ⟨typeIs_int s i t, fun _ e => nomatch e⟩
  | ref p =>
    cases r
    rcases ty with ⟨rfl, xs, hq⟩ | ⟨rfl, o, hk, hc, hd⟩ | ⟨rfl, hk⟩ | ⟨rfl, S, n, hk⟩
    · obtain ⟨its, _, pl, _⟩ := I.list hq
      refine ⟨pl.isList.typeIs, fun a e => ?_⟩
      cases e
      obtain ⟨o, n, e, c, hd, _⟩ := pl
      exact ⟨o, e, hd⟩
    · refine ⟨⟨o, I.kIn p o hk, hc⟩, fun a e => ?_⟩
      cases e
      exact ⟨o, I.kIn _ o hk, hd⟩
    · have z : ∃ o, s.heap.get? p = some o ∧ o.ExactDict := by
        rcases hk with ⟨kvs, hk⟩ | ⟨kvs, hk⟩
        · obtain ⟨_, _, _, _, o, _, _, e, ex, _⟩ := I.hok p _ hk
          exact ⟨o, e, ex⟩
        · obtain ⟨_, _, _, _, o, _, _, e, ex, _⟩ := I.hok p _ hk
          exact ⟨o, e, ex⟩
      obtain ⟨o, e, ex⟩ := z
      refine ⟨⟨o, e, ex.1⟩, fun a e2 => ?_⟩
      cases e2
      exact ⟨o, e, ex.2.1⟩
    · obtain ⟨o, _, _, _, e, ex, _⟩ := I.hok p _ hk
      refine ⟨⟨o, e, ex.1⟩, fun a e2 => ?_⟩
      cases e2
      exact ⟨o, e, ex.2.1⟩
  | _ => exact False.elim ty
noncomputable def tBM (K : PySem.W.Frag) (T : String) (r : V → List V → Hp → VK → Prop) (to : TE) (t : TA) : TE := fun σ H Q => to σ H fun x H1 => tyV K T x H1 ∧ t σ H1 fun xs H2 => r x xs H2 Q
variable {o e : Expr} {es : List Expr} {to : TE} {t : TA} {name : Str} {apos cpos : Pos} {T id : String} {r : V → List V → Hp → VK → Prop}
theorem pe_bm (pa : PlainAttrs T) (slot : Slot T name id) (hty : typeOf (.builtin id) = pure (.type "method_descriptor")) (hm : MtR X id r) (ho : PE X o to) (ha : PA X (e :: es) t)
    (hbase : attributeBase o name X.env (eval o X.env) = eval o X.env := by rfl)
    (hfew : ((backTo cpos (starEach (e :: es) X.env)).all (fun x => !x.1) && (backToKw cpos (keywordEach [] X.env)).all (fun x => x.1.isSome)
      && decide ((e :: es).length + ([] : List Keyword).length + (if ([] : List Keyword).isEmpty then 0 else 1) < 30)) = true := by rfl)
    (hline : (apos.endLine == cpos.line) = true := by rfl) (hs : starEach (e :: es) X.env = (false, eval e X.env) :: starEach es X.env := by rfl) (hplain : (backTo cpos (starEach es X.env)).any (·.1) = false := by rfl) :
    PE X (.Call (.Attribute o name apos) (e :: es) [] cpos) (tBM X.K T r to t) := by
  intro pins s σ H Q I h
  refine wpAny_Call_method_late hbase hfew hline rfl (thn (ho pins s σ H _ I h) fun v s1 ⟨x, H1, I1, r1, ty, q1⟩ => ?_)
  obtain ⟨h1, h2⟩ := tyV_is I1 r1 ty
  refine ⟨T, id, pa, slot, hty, h1, h2, ?_⟩
  have hA := ha cpos pins s1 σ H1 _ I1 q1
  rw [hs] at hA ⊢
  refine Calls.callWith_builtin (by show (false || (backTo cpos (starEach es X.env)).any (·.1)) = false; rw [hplain] <;> rfl) (Calls.evalArgs_plain ?_)
  exact thn hA <| by rintro us s2 ⟨vs, H2, I2, r2, q2⟩; exact hm pins s2 σ H2 x vs v us Q I2 r1 r2 q2
end
end L2

namespace L2
open PySem PySem.Spec PyProof.Rows

noncomputable def MtM (X : Cx) (id : String) (r : V → List V → Hp → VK → Prop) : Prop :=
  ∀ (pins : List (Addr × Obj)) (s : Shared) (σ : St) (H : Hp) (x : V) (xs : List V) (v : Value) (us : List Value) (Q : VK), Inv X pins σ H s → RelV x v → Vals xs us → r x xs H Q →
    wpAny (model X.prog X.w) X.A (call (.builtin id) (v :: us)) (EP X pins σ Q) X.xe s

theorem Vals.one {x : V} {us : List Value} (a : Vals [x] us) : ∃ u, us = [u] ∧ RelV x u := by
  cases a with | cons r t => cases t; exact ⟨_, rfl, r⟩
theorem Vals.rep {xs : List V} {us : List Value} (h : Vals xs us) : ∀ k : Nat, Vals (List.replicate k xs).flatten (List.replicate k us).flatten
  | 0 => .nil
  | k + 1 => by
    rw [List.replicate_succ, List.replicate_succ, List.flatten_cons, List.flatten_cons]
    exact Vals.append h (Vals.rep h k)
theorem foldl_rep (its : List Value) : ∀ (k : Nat) (acc : List Value),
    List.foldl (fun x1 x2 => x1 ++ x2) acc.toArray (List.replicate k its.toArray) = (acc ++ (List.replicate k its).flatten).toArray
  | 0, acc => by simp
  | k + 1, acc => by
    have e : acc.toArray ++ its.toArray = (acc ++ its).toArray := by simp
    have e2 : (acc ++ its) ++ (List.replicate k its).flatten = acc ++ (List.replicate (k + 1) its).flatten := by
      rw [List.replicate_succ, List.flatten_cons, List.append_assoc]
    rw [← e2, ← foldl_rep its k (acc ++ its), ← e, List.replicate_succ, List.foldl_cons]

section
variable {X : Cx} {pins : List (Addr × Obj)} {σ : St} {H : Hp} {s : Shared} {l b : Addr} {xs ys zs : List V}

theorem Inv.lset {its its' : List Value} {n : Nat} {f : Array Value → Array Value} {t' : Nat} (I : Inv X pins σ H s) (hH : H l = some (.lst xs))
    (e : s.heap.get? l = some { cls := .type "list", data := .seq its.toArray n }) (hf : f its.toArray = its'.toArray) (hv : Vals ys its') (hz : ys.length ≤ sizeLine) :
    Inv X pins σ (upd H l (.lst ys)) { s with heap := s.heap.update l (Obj.mapSeq f), toks := t' } := by
  have q := PySem.IsL.update e f
  rw [hf] at q
  refine I.write (x := l) (e := l) (by rw [hH]; exact trivial) (.inl rfl) (fun b' u hb hu => (Heap.get?_update_other s.heap (Obj.mapSeq f) (Ne.symm hb)).trans hu) ⟨_, q⟩ ?_
  exact ⟨hz, its', _, hv, q⟩
theorem Inv.lnew {its : List Value} {t' : Nat} (I : Inv X pins σ H s) (hv : Vals ys its) (hz : ys.length ≤ sizeLine) :
    Inv X pins σ (upd H s.heap.objs.size (.lst ys)) { s with heap := s.heap.push { cls := .type "list", data := .seq its.toArray }, toks := t' } :=
  I.laid (fun _ _ q => Heap.get?_push_of_some _ q) (Nat.le_refl _) ⟨hz, its, 0, hv, Heap.get?_push_size _ rfl⟩
theorem Inv.fresh (I : Inv X pins σ H s) : H s.heap.objs.size = none := I.hok.fresh (Nat.le_refl _)
theorem Inv.lstM (I : Inv X pins σ H s) (hH : H l = some (.lst xs)) : xs.length ≤ sizeLine ∧ ∃ (its : List Value) (n : Nat), Vals xs its ∧ xs.length = its.length ∧ s.heap.get? l = some { cls := .type "list", data := .seq its.toArray n } := by
  obtain ⟨z, its, n, r, e⟩ := I.hok l _ hH
  exact ⟨z, its, n, r, r.length, e⟩

theorem notLongL {n : Nat} (h : n ≤ sizeLine) : Builtin.List.listTooLong n = false := by
  unfold Builtin.List.listTooLong
  exact decide_eq_false (by first | assumption | exact Nat.le_of_lt ‹_› | omega)
end

section
variable {X : Cx}

noncomputable def rAppend : V → List V → Hp → VK → Prop := fun x vs H Q => ∃ l xs y, x = .ref l ∧ vs = [y] ∧ H l = some (.lst xs) ∧ xs.length < sizeLine ∧ Q .non (upd H l (.lst (xs ++ [y])))
theorem mt_append : MtM X "list.append" rAppend := by
  intro pins s σ H x vs v us Q I rx rv h
  obtain ⟨l, xs, y, rfl, rfl, hH, hz, q⟩ := h
  cases rx
  obtain ⟨u, rfl, ru⟩ := rv.one
  obtain ⟨z, its, n, r, hl, e⟩ := I.lstM hH
  refine call_meets F.slot_list_append ⟨_, e, rfl⟩ F.entry_list_append (F.args_list_append_2 _ _) (PySem.list_append l its.toArray n u (by rw [List.size_toArray]; omega)) ⟨e, ?_⟩
  refine ⟨.non, _, I.lset (its' := its ++ [u]) hH e (by simp) (r.append (.cons ru .nil)) ?_, rfl, q⟩
  rw [List.length_append, List.length_singleton]
  omega

noncomputable def rExtend : V → List V → Hp → VK → Prop := fun x vs H Q => ∃ l b xs zs, x = .ref l ∧ vs = [.ref b] ∧ H l = some (.lst xs) ∧ H b = some (.lst zs) ∧ xs.length + zs.length ≤ sizeLine ∧ Q .non (upd H l (.lst (xs ++ zs)))
theorem mt_extend : MtM X "list.extend" rExtend := by
  intro pins s σ H x vs v us Q I rx rv h
  obtain ⟨l, b, xs, zs, rfl, rfl, hH, hB, hz, q⟩ := h
  cases rx
  obtain ⟨u, rfl, ru⟩ := rv.one
  cases ru
  obtain ⟨z, its, n, r, hl, e⟩ := I.lstM hH
  obtain ⟨z2, its2, n2, r2, hl2, e2⟩ := I.lstM hB
  have hsz : its.toArray.size + its2.toArray.size ≤ sizeLine := by rw [List.size_toArray, List.size_toArray]; omega
  have hlong : ¬ (!its.toArray.isEmpty && Builtin.List.listTooLong (its.toArray.size + its2.toArray.size)) = true := by
    rw [notLongL hsz, Bool.and_false]
    exact Bool.false_ne_true
  refine call_meets F.slot_list_extend ⟨_, e, rfl⟩ F.entry_list_extend (F.args_list_extend_2 _ _)
    (AutoSeq1.list_extend_list_list_0 l its.toArray n b its2.toArray n2 hlong (by rw [List.size_toArray]; omega) (by first | assumption | exact Nat.le_of_lt ‹_› | omega)) ⟨e, e2, ?_⟩
  refine ⟨.non, _, I.lset (its' := its ++ its2) hH e (by simp) (r.append r2) ?_, rfl, q⟩
  rw [List.length_append]
  omega

theorem len_rep {α : Type} (xs : List α) (k : Nat) : (List.replicate k xs).flatten.length = k * xs.length := by
  induction k with
  | zero => simp
  | succ k ih => rw [List.replicate_succ, List.flatten_cons, List.length_append, ih, Nat.succ_mul, Nat.add_comm]
end

section
variable {prog : Program} {w : World} {A : Around} {E : Value → Shared → Prop} {s : Shared}
end

section
variable {X : Cx}
end
end L2

namespace Att
open PySem PySem.W PySem.Calls PyProof.Rows

theorem ints_of_wellAll {P : Params} {h : Heap} : ∀ (ns : List Int) (vs : List Value), WellAll P h vs (ns.map WData.int) → IntsAre vs ns := by
  intro ns
  induction ns with
  | nil =>
    intro vs w
    rw [List.map_nil] at w
    cases w
    exact .nil
  | cons n ns ih =>
    intro vs w
    rw [List.map_cons] at w
    cases w with
    | cons a b =>
      cases a
      exact .cons _ _ (ih _ b)

theorem script_of {l : OpenLaw} {n : Nat} (hn : l.most = some n) {P : Params} {h : Heap} {args : List WData} {vals : List Value}
    (hpre : l.row.toRowW.claim.pre args = true) (hwl : WellAll P h vals args) :
    ∃ a vs ns, vals = [Value.ref a] ∧ args = [WData.list (ns.map WData.int)] ∧ h.get? a = some { cls := .type "list", data := .seq vs.toArray } ∧ IntsAre vs ns ∧ ns.length ≤ n := by
  have hsh : WShape.hasAll [] args [.list .int] = true := (pre_splitW hpre).1
  have hc : l.pre.holds [] { args := args } = true := (pre_splitW hpre).2
  obtain ⟨d, r, rfl, h1, h2⟩ := hasAllW_cons hsh
  obtain rfl := hasAllW_nil h2
  obtain ⟨xs, rfl, h3⟩ := hasW_list h1
  obtain ⟨ns, rfl⟩ := items_int h3
  have hlen : ns.length ≤ n := by
    unfold OpenLaw.pre at hc
    have h4 : (WTm.not (.lt (.lit (.int (n : Int))) (.len (.arg 0)))).holds [] { args := [.list (ns.map .int)] } = true := by
      have h4 := (holds_andW hc).1
      rw [hn] at h4
      exact h4
    have h5 := condW_of h4 (w_not (w_lt w_lit (w_len_list (w_arg rfl))))
    rw [List.length_map] at h5
    refine Nat.le_of_not_lt fun q => ?_
    have q' : (n : Int) < ((ns.length : Nat) : Int) := by omega
    first
      | (rw [decide_eq_true q'] at h5; exact absurd h5 (by decide))
      | (simp at h5; omega)
  cases hwl with
  | cons w1 w2 =>
    cases w2
    cases w1 with
    | list ho hall => exact ⟨_, _, ns, rfl, rfl, ho, ints_of_wellAll ns _ hall, hlen⟩

theorem post_true (l : OpenLaw) (args : List WData) : l.row.toRowW.claim.post args (.bool true) args = true :=
  postW_of (r := l.row.toRowW) (X := (true == true))
    (show WShape.has [] (.bool true) .bool = true by first | rfl | decide | simp [WShape.has, WShape.arms, WShape.armsAll])
    (show (WTm.eq .res (.lit (.bool true))).value [] { args := args, res := some (.bool true), after := args } = some (.bool (true == true)) from w_eq_bool (w_res rfl) w_lit) rfl

theorem attach_call {l : OpenLaw} {n : Nat} {q : Program} {loose : List Str} {XP : (Str → Option Value) → Heap → Prop} {YP : World → Heap → Prop} {d : DefRec}
    (hn : l.most = some n) (hdf : d.params.defaults = [])
    (call : ∀ (w : World) (s₀ s₁ : Shared) (mg mb : Str → Option Value) (fa : Addr) (o : Obj) (pm cd doc : Value) (a : Addr) (vs : List Value) (ns : List Int),
      Ground q loose [] XP w s₀ mg mb s₁.heap → YP w s₁.heap →
      s₁.heap.get? fa = some o → o.data = .func (docDef d.name d.params d.body d.scope pm cd doc) → s₁.heap.CodeRec cd d.name → mg d.name = some (.ref fa) →
      s₁.heap.get? a = some { cls := .type "list", data := .seq vs.toArray } → IntsAre vs ns → ns.length ≤ n → s₁.gens = #[] →
      codeAny (model l.prog w) callerA (.call (.ref fa) ⟨[.ref a], []⟩) (fun r s' => r = .ok (.ret (.bool true)) ∧ OldK s₁.heap s'.heap ∧ s'.os = s₁.os ∧ AllBare s'.gens) s₁) :
    WalkO q loose XP YP l.row.toRowW d [] (fun f vs => PySem.call f vs) := by
  intro w s₀ s₁ mg mb G Y fa o pm cd doc dV kV ho hd hcd hD hmg hg args vals as hpre hlay hrd hwl hlo
  obtain rfl : dV = .none := Dflts.none hD hdf
  obtain rfl : kV = .none := Dflts.noKw hD
  obtain ⟨a, vs, ns, rfl, rfl, hobj, hints, hlen⟩ := script_of hn hpre hwl
  refine enter_call (codeAny_mono (call w s₀ s₁ mg mb fa o pm cd doc a vs ns G Y ho (fd_plain hd) hcd hmg hobj hints hlen hg) fun r s' hq => ?_)
  obtain ⟨rfl, h2, h3, h4⟩ := hq
  exact ⟨.inl ⟨.bool true, .bool true, [], rfl, fun _ => rfl, .bool true, post_true l _, fun _ => ⟨List.Pairwise.nil, fun _ hm => (nomatch hm)⟩⟩, h2, h3, h4⟩

section
variable {prog : Program} {w : World} {A : Around} {E : Value → Shared → Prop} {s : Shared} {K : Frag}

end
end Att

namespace L2
open PySem PySem.Spec PyProof.Rows

theorem vals_ints : ∀ {vs : List Value} {ns : List Int}, IntsAre vs ns → Vals (ns.map V.int) vs
  | _, _, .nil => .nil
  | _, _, .cons n t h => .cons ⟨t, rfl⟩ (vals_ints h)

noncomputable def Only (H : Hp) : Prop := ∀ b, H b = none ∨ ∃ o xs, H b = some (.frz o (.lst xs))

theorem law_call {P : Program} {w : World} {K : PySem.W.Frag} {mg mb : Str → Option Value} {CX : CXT} {k : Nat} {fa a : Addr} {fd : FuncData} {x : Str} {sp : Sp} {s₁ : Shared} {vs : List Value} {ns : List Int}
    (KX : K.In s₁.heap) (hns : s₁.heap.Ns mainGlobals mg) (hb : s₁.heap.Ns builtinsNs mb) (hbb : ∀ x : Str, x ≠ "__name__" → mb x = bootBuiltins x) (hlim : s₁.heap.NoLimit) (hg : s₁.gens = #[])
    (ha : s₁.heap.get? a = some { cls := .type "list", data := .seq vs.toArray }) (hi : IntsAre vs ns) (hl : ns.length ≤ sizeLine) (hr : Room k callerA)
    (F : ∀ base : Heap, K.In base → base.Ns mainGlobals mg → FnOk P w K mg base CX k fa fd [x] sp) (hbind : ∀ (s : Shared) (u : Value), BindsTo s fd ⟨[u], []⟩ [(x, u)])
    (hsp : ∀ H : Hp, Only H → SqL K H a (ns.map V.int) → sp [.ref a] H (fun v _ => v = .bl true) fun _ _ _ => False)
    (hCX : ∀ H e s', CX [] H s₁ (fun _ _ _ => False) e s' → False) :
    codeAny (model P w) callerA (.call (.ref fa) ⟨[.ref a], []⟩) (fun r s' => r = .ok (.ret (.bool true)) ∧ OldK s₁.heap s'.heap ∧ s'.os = s₁.os ∧ AllBare s'.gens) s₁ := by
  have rv := vals_ints hi
  have lenV := hi.length
  -- from an abstract heap in which nothing but the script may be tracked
  have core : ∀ H : Hp, Only H → SqL K H a (ns.map V.int) → HOk P w H s₁.heap → (∀ b, H b ≠ none → b = a) → (H a ≠ none → K.lookup a = none) →
      codeAny (model P w) callerA (.call (.ref fa) ⟨[.ref a], []⟩) (fun r s' => r = .ok (.ret (.bool true)) ∧ OldK s₁.heap s'.heap ∧ s'.os = s₁.os ∧ AllBare s'.gens) s₁ := by
    intro H hO hS hok hA hK
    have base_of : ∀ {b : Addr} {o : Obj}, s₁.heap.get? b = some o → H b = none → (hidT s₁.heap H).get? b = some o := fun e n => hidT_get e n
    have noA : ∀ {b : Addr} {o : Obj} {es : Array DictEntry} {ep : Nat}, s₁.heap.get? b = some o → o.data = .dict es ep → H b = none := fun {b o es ep} e d => by
      cases q : H b with
      | none => rfl
      | some u =>
        have e' : b = a := hA b (by rw [q]; simp)
        subst e'
        rw [ha] at e; cases e
        have d' : Data.seq vs.toArray _ = Data.dict es ep := d
        cases d'
    have nsK : ∀ {b : Addr} {m : Str → Option Value}, s₁.heap.Ns b m → (hidT s₁.heap H).Ns b m := fun {b m} ⟨o, es, ep, e, d, r⟩ => ⟨o, es, ep, base_of e (noA e d), d, r⟩
    have hKb : K.In (hidT s₁.heap H) := fun b o e => base_of (KX b o e) (by
      cases q : H b with
      | none => rfl
      | some u =>
        have e' : b = a := hA b (by rw [q]; simp)
        subst e'
        rw [hK (by rw [q]; simp)] at e; cases e)
    have hM : Mod K mg (hidT s₁.heap H) := ⟨hKb, nsK hns, ⟨mb, nsK hb, hbb⟩, let ⟨mc, h1, h2⟩ := hlim; ⟨mc, nsK h1, h2⟩⟩
    have e0 : Env0 P w K mg (hidT s₁.heap H) callerA [] s₁ H := ⟨rfl, hM, fun b o e => of_hidT e, Nat.le_of_eq (hidT_size _ _), trivial, fun b hb => absurd (show b ∈ ([] : List Addr) from hb) (by simp), hok, .of_eq hg⟩
    refine codeAny_mono ((F _ hKb (nsK hns)).run callerA [] s₁ H ⟨[.ref a], []⟩ [.ref a] [.ref a] _ _ hr e0 (hbind s₁ (.ref a)) (.cons rfl .nil) (hsp H hO hS)) fun r s' h => ?_
    cases r with
    | error e => exact (hCX H e s' h).elim
    | ok fl =>
      cases fl with
      | next => exact False.elim h
      | brk => exact False.elim h
      | cont => exact False.elim h
      | ret u =>
        obtain ⟨v, H', os, bare, un, hok', r', q⟩ := h
        have q' : v = .bl true := q
        subst q'
        obtain rfl : u = Value.bool true := r'
        refine ⟨rfl, OldK.of_keep fun b o e => ?_, os, bare⟩
        cases q : H b with
        | none => exact un.keep b o e q (by intro z; exact absurd (show b ∈ ([] : List Addr) from z) (by simp)) (by simp)
        | some u =>
          rcases hO b with z | ⟨ob, xs, z⟩
          · rw [q] at z; cases z
          · have z2 := un.frzs b ob _ z
            obtain ⟨e1, _⟩ := hok b _ z
            obtain ⟨e2, _⟩ := hok' b _ z2
            rw [e] at e1; cases e1
            exact e2
  cases hk : K.lookup a with
  | some o =>
    -- the script is one of the module's own objects
    have e := KX a o hk
    rw [ha] at e
    cases e
    refine core (fun _ => none) (fun _ => .inl rfl) (.inr ⟨_, vs.toArray, _, hk, rfl, rfl, rfl, by rw [List.size_toArray, lenV]; exact hl, by simpa using rv⟩) (fun b u z => by have z' : (none : Option HO) = some u := z; cases z') (fun b z => absurd rfl z) fun z => absurd rfl z
  | none =>
    refine core (fun b => if b = a then some (.frz { cls := .type "list", data := .seq vs.toArray } (.lst (ns.map V.int))) else none) (fun b => ?_) (.inl (.inr ⟨{ cls := .type "list", data := .seq vs.toArray }, if_pos rfl⟩)) (fun b u z => ?_) (fun b z => ?_) fun _ => hk
    · by_cases hb : b = a
      · exact .inr ⟨_, _, if_pos hb⟩
      · exact .inl (if_neg hb)
    · by_cases hb : b = a
      · have z' := (if_pos hb).symm.trans z
        cases z'
        subst hb
        exact ⟨ha, by rw [List.length_map]; exact hl, vs, _, rv, ha⟩
      · have z' := (if_neg hb).symm.trans z
        cases z'
    · by_cases hb : b = a
      · exact hb
      · exact absurd (if_neg hb) z
end L2

namespace L2
open PySem PySem.Spec PyProof.Rows

theorem walk_of {l : PySem.W.OpenLaw} {n k : Nat} {q : Program} {loose : List Str} {XP : (Str → Option Value) → Heap → Prop} {YP : World → Heap → Prop} {d : DefRec} {K : Params → PySem.W.Frag} {CX : World → CXT} {sp : World → Sp} {x : Str}
    (hn : l.most = some n) (hn2 : n ≤ sizeLine) (hdf : d.params.defaults = []) (hr : Room k callerA)
    (hY : ∀ (w : World) (h : Heap), YP w h → (K w.params).In h)
    (F : ∀ (w : World) (mg : Str → Option Value) (fa : Addr) (h : Heap), (K w.params).In h → h.Ns mainGlobals mg → mg d.name = some (.ref fa) →
      ∃ fd : FuncData, (∀ (s : Shared) (u : Value), BindsTo s fd ⟨[u], []⟩ [(x, u)]) ∧
        ∀ base : Heap, (K w.params).In base → base.Ns mainGlobals mg → FnOk l.prog w (K w.params) mg base (CX w) k fa fd [x] (sp w))
    (hsp : ∀ (w : World) (H : Hp) (a : Addr) (ns : List Int), ns.length ≤ n → Only H → SqL (K w.params) H a (ns.map V.int) → sp w [.ref a] H (fun v _ => v = .bl true) fun _ _ _ => False)
    (hCX : ∀ (w : World) (H : Hp) (s : Shared) (e : Value) (s' : Shared), CX w [] H s (fun _ _ _ => False) e s' → False) :
    PySem.W.WalkO q loose XP YP l.row.toRowW d [] (fun f vs => PySem.call f vs) := by
  refine Att.attach_call hn hdf fun w s₀ s₁ mg mb fa o pm cd doc a vs ns G Y ho hd hcd hmg hobj hints hlen hg => ?_
  have KX := hY w _ Y
  obtain ⟨fd, hb, hF⟩ := F w mg fa _ KX G.T.g hmg
  exact law_call KX G.T.g G.T.b G.T.builtins G.T.nolimit hg hobj hints (Nat.le_trans hlen hn2) hr hF hb (fun H hO hS => hsp w H a ns hlen hO hS) fun H e s' => hCX w H s₁ e s'
end L2


namespace L2
open PySem PySem.Spec PyProof.Rows

noncomputable def defArgs (s : Stmt) : Arguments := match s with
  | .FunctionDef _ a _ _ _ _ _ _ _ _ => a
  | _ => { posonlyargs := [], args := [], vararg := none, kwonlyargs := [], kw_defaults := [], kwarg := none, defaults := [] }
noncomputable def defBody (s : Stmt) : List Stmt := match s with
  | .FunctionDef _ _ b _ _ _ _ _ _ _ => b
  | _ => []
noncomputable def defScope (s : Stmt) : Scope := match s with
  | .FunctionDef _ _ _ _ _ _ sc _ _ _ => sc
  | _ => { kind := .function, names := [], isGenerator := false, isCoroutine := false }

noncomputable abbrev CX0 : CXT := fun _ _ _ _ _ _ => False
noncomputable abbrev E0 : XK := fun _ _ _ => False
theorem pass0 {X : Cx} : Passes CX0 X E0 := fun _ _ _ _ _ _ _ h => h.elim

set_option genSizeOf false in
set_option genInjectivity false in
structure Fun (K : PySem.W.Frag) (x qual : Str) (st : Stmt) (f : Addr) (fd : FuncData) : Prop where
  ex : ∃ (oc : Value) (od : Option Addr) (kV doc pm : Value) (an : Option Addr) (cdv ct : Value) (osl : Array (Option Value)),
    fd = PySem.W.fnOf x qual (defArgs st) (defBody st) (defScope st) .none kV doc pm an cdv ct ∧ K.lookup f = some ⟨oc, od, .func fd, osl⟩ ∧ PySem.W.codeIn K cdv qual = true
  kp : PySem.W.keepIn K (.ref f) = true
section
variable {P : Program} {w : World} {K : PySem.W.Frag} {mg : Str → Option Value} {base : Heap}
theorem Fun.ok {x qual : Str} {st : Stmt} {f : Addr} {fd : FuncData} {N ps : List Str} {k : Nat} {sp : Sp} (F : Fun K x qual st f fd) (S : FnScope N ps (defScope st)) (len : ∀ vs H Q E, sp vs H Q E → vs.length = ps.length)
    (hbody : ∀ (cdv : Value) (A : Around) (outer : List Env) (s : Shared) (H : Hp) (vs : List V) (Q : VK) (E : XK), Room k (A.deeper (envOfC qual (defScope st) s.heap.objs.size f cdv)) → sp vs H Q E →
      ∃ t, PSs (cxOf CX0 P w K mg base N qual (defScope st) f cdv A outer s H E).nox (defBody st) t ∧ t { nx := fun _ H' => Q .non H', rt := Q } (start N vs) H) : FnOk P w K mg base CX0 (k + 1) f fd ps sp := by
  obtain ⟨oc, od, kV, doc, pm, an, cdv, ct, osl, rfl, lk, hcd⟩ := F.ex
  refine fn_of lk hcd S len fun A outer s H vs Q E hr hsp => ?_
  obtain ⟨t, h, q⟩ := hbody cdv A outer s H vs Q E hr hsp
  exact ⟨t, h.nox, q⟩
theorem Fun.binds {x qual : Str} {st : Stmt} {f : Addr} {fd : FuncData} {ps : List Str} (F : Fun K x qual st f fd)
    (h : ∀ (kV doc pm : Value) (an : Option Addr) (cdv ct : Value) (us : List Value), us.length = ps.length → bindArgs (PySem.W.fnOf x qual (defArgs st) (defBody st) (defScope st) .none kV doc pm an cdv ct) ⟨us, []⟩ = pure (ps.zip us)) : Binds K fd ps [] := by
  obtain ⟨oc, od, kV, doc, pm, an, cdv, ct, osl, rfl, lk, hcd⟩ := F.ex
  exact .all (h kV doc pm an cdv ct)
theorem fun_mk {x qual : Str} {st : Stmt} {f : Addr} {oc : Value} {od an : Option Addr} {osl : Array (Option Value)} {kV doc pm cdv ct : Value} (l : K.lookup f = some ⟨oc, od, .func (PySem.W.fnOf x qual (defArgs st) (defBody st) (defScope st) .none kV doc pm an cdv ct), osl⟩)
    (c : PySem.W.codeIn K cdv qual = true) (k : PySem.W.keepIn K (.ref f) = true) : Fun K x qual st f (PySem.W.fnOf x qual (defArgs st) (defBody st) (defScope st) .none kV doc pm an cdv ct) := ⟨⟨oc, od, kV, doc, pm, an, cdv, ct, osl, rfl, l, c⟩, k⟩
end
theorem small1000 {n : Nat} (h : n ≤ 1000) : n < sizeLine := Nat.lt_of_le_of_lt h (by decide)

section
variable {X : Cx}
end

theorem iteF {A B : Prop} (h : B) : if false = true then A else B := by
  rw [if_neg Bool.false_ne_true]
  exact h
theorem iteT {A B : Prop} (h : A) : if true = true then A else B := by
  rw [if_pos rfl]
  exact h
noncomputable def Same (H H' : Hp) : Prop := ∀ b o, H b = some o → H' b = some o
theorem Same.refl (H : Hp) : Same H H := fun _ _ h => h
theorem Same.trans {H H1 H2 : Hp} (a : Same H H1) (b : Same H1 H2) : Same H H2 := fun c o h => b c o (a c o h)
theorem Same.free {H H' : Hp} (e : Same H H') {l : Addr} (h : H' l = Option.none) : H l = Option.none := by
  cases q : H l with
  | none => rfl
  | some o =>
    rw [e l o q] at h
    cases h
theorem Same.seq {K : PySem.W.Frag} {H H' : Hp} {a : Addr} {xs : List V} (e : Same H H') (h : SqL K H a xs) : SqL K H' a xs := by
  rcases h with (h | ⟨o, h⟩) | h
  · exact .inl (.inl (e _ _ h))
  · exact .inl (.inr ⟨o, e _ _ h⟩)
  · exact .inr h

end L2

set_option Elab.async false
set_option linter.all false
set_option maxRecDepth 100000
namespace PD
open PySem PySem.Spec L2

inductive D where
  | non | bl (b : Bool) | int (i : Int) | str (s : Str) | tup (xs : List D) | lst (xs : List D)
  deriving Inhabited

theorem Same.sqL {K : PySem.W.Frag} {H H' : Hp} {a : Addr} {xs : List V} (e : Same H H') (h : SqL K H a xs) : SqL K H' a xs := e.seq h
theorem Same.sqT {K : PySem.W.Frag} {H H' : Hp} {a : Addr} {xs : List V} (e : Same H H') (h : SqT K H a xs) : SqT K H' a xs := by
  rcases h with (h | ⟨o, h⟩) | h
  · exact .inl (.inl (e _ _ h))
  · exact .inl (.inr ⟨o, e _ _ h⟩)
  · exact .inr h

mutual
inductive Rep (K : PySem.W.Frag) (G : Hp) : V → D → Prop where
  | non : Rep K G .non .non
  | bl (b : Bool) : Rep K G (.bl b) (.bl b)
  | int (i : Int) : Rep K G (.int i) (.int i)
  | str (x : Str) : Rep K G (.str x) (.str x)
  | tup {a : Addr} {xs : List V} {ds : List D} (h : SqT K G a xs) (r : Reps K G xs ds) : Rep K G (.ref a) (.tup ds)
  | lst {a : Addr} {xs : List V} {ds : List D} (h : SqL K G a xs) (r : Reps K G xs ds) : Rep K G (.ref a) (.lst ds)
inductive Reps (K : PySem.W.Frag) (G : Hp) : List V → List D → Prop where
  | nil : Reps K G [] []
  | cons {v : V} {d : D} {vs : List V} {ds : List D} (h : Rep K G v d) (r : Reps K G vs ds) : Reps K G (v :: vs) (d :: ds)
end
mutual
theorem Rep.mono {K : PySem.W.Frag} {G G' : Hp} (s : Same G G') {v : V} {d : D} (a : Rep K G v d) : Rep K G' v d := by
  cases a with
  | non => exact .non
  | bl b => exact .bl b
  | int i => exact .int i
  | str x => exact .str x
  | tup h r => exact .tup (Same.sqT s h) (Reps.mono s r)
  | lst h r => exact .lst (Same.sqL s h) (Reps.mono s r)
theorem Reps.mono {K : PySem.W.Frag} {G G' : Hp} (s : Same G G') {vs : List V} {ds : List D} (a : Reps K G vs ds) : Reps K G' vs ds := by
  cases a with
  | nil => exact .nil
  | cons h r => exact .cons (Rep.mono s h) (Reps.mono s r)
end
section
variable {K : PySem.W.Frag} {G G' G0 H H' H0 : Hp}
theorem Reps.length {vs : List V} {ds : List D} (a : Reps K G vs ds) : vs.length = ds.length := by
  cases a with
  | nil => rfl
  | cons _ r => exact congrArg (· + 1) (Reps.length r)
theorem Reps.get : ∀ {vs : List V} {ds : List D} {i : Nat} {d : D}, Reps K G vs ds → ds[i]? = some d → ∃ v, vs[i]? = some v ∧ Rep K G v d
  | _, _, _, _, .nil, e => by simp at e
  | _, _, 0, _, .cons h _, e => by simp at e; subst e; exact ⟨_, rfl, h⟩
  | _, _, i + 1, d, .cons _ r, e => by
    obtain ⟨v, h1, h2⟩ := Reps.get (i := i) (d := d) r (by simpa using e)
    exact ⟨v, by simpa using h1, h2⟩
theorem Reps.get' : ∀ {vs : List V} {ds : List D} {i : Nat} {v : V}, Reps K G vs ds → vs[i]? = some v → ∃ d, ds[i]? = some d ∧ Rep K G v d
  | _, _, _, _, .nil, e => by simp at e
  | _, _, 0, _, .cons h _, e => by simp at e; subst e; exact ⟨_, rfl, h⟩
  | _, _, i + 1, v, .cons _ r, e => by
    obtain ⟨d, h1, h2⟩ := Reps.get' (i := i) (v := v) r (by simpa using e)
    exact ⟨d, by simpa using h1, h2⟩
theorem Reps.append {vs us : List V} {ds es : List D} (a : Reps K G vs ds) (s : Reps K G us es) : Reps K G (vs ++ us) (ds ++ es) := by
  cases a with
  | nil => exact s
  | cons h r => exact .cons h (Reps.append r s)
theorem Reps.take : ∀ {vs : List V} {ds : List D} (n : Nat), Reps K G vs ds → Reps K G (vs.take n) (ds.take n)
  | _, _, 0, _ => .nil
  | _, _, _ + 1, .nil => .nil
  | _, _, n + 1, .cons h r => .cons h (Reps.take n r)
theorem Reps.drop : ∀ {vs : List V} {ds : List D} (n : Nat), Reps K G vs ds → Reps K G (vs.drop n) (ds.drop n)
  | _, _, 0, r => r
  | _, _, _ + 1, .nil => .nil
  | _, _, n + 1, .cons _ r => Reps.drop n r
theorem Reps.one {vs : List V} {d : D} (r : Reps K G vs [d]) : ∃ v, vs = [v] ∧ Rep K G v d := by
  cases r with | cons h r => cases r; exact ⟨_, rfl, h⟩
theorem Reps.two {vs : List V} {d e : D} (r : Reps K G vs [d, e]) : ∃ v u, vs = [v, u] ∧ Rep K G v d ∧ Rep K G u e := by
  cases r with | cons h r => obtain ⟨u, rfl, h2⟩ := r.one; exact ⟨_, u, rfl, h, h2⟩

set_option genSizeOf false in
set_option genInjectivity false in
structure Ext (G H G' H' : Hp) : Prop where
  hh : Same H H'
  gg : Same G G'
  gh : Same G' H'
  nw : ∀ b o, G' b = some o → G b = some o ∨ H b = none
theorem Ext.refl (h : Same G H) : Ext G H G H := ⟨Same.refl _, Same.refl _, h, fun _ _ e => .inl e⟩
theorem Ext.trans {G1 H1 G2 H2 : Hp} (a : Ext G H G1 H1) (b : Ext G1 H1 G2 H2) : Ext G H G2 H2 :=
  ⟨a.hh.trans b.hh, a.gg.trans b.gg, b.gh, fun c o e => by
    rcases b.nw c o e with q | q
    · exact a.nw c o q
    · exact .inr (a.hh.free q)⟩
theorem Ext.new (h : Same G H) {p : Addr} (hp : H p = none) (o : HO) : Ext G H (upd G p o) (upd H p o) := by
  refine ⟨fun b u e => ?_, fun b u e => ?_, fun b u e => ?_, fun b u e => ?_⟩
  · rw [upd_ne (ne_of_none e hp)]; exact e
  · rw [upd_ne (ne_of_none (h _ _ e) hp)]; exact e
  · by_cases hb : b = p
    · subst hb; rw [upd_same] at e ⊢; exact e
    · rw [upd_ne hb] at e ⊢; exact h _ _ e
  · by_cases hb : b = p
    · subst hb; exact .inr hp
    · rw [upd_ne hb] at e; exact .inl e
theorem Ext.own (h : Same G H) {p : Addr} (hp : H p = none) (o : HO) : Ext G H G (upd H p o) := by
  refine ⟨fun b u e => ?_, Same.refl _, fun b u e => ?_, fun _ _ e => .inl e⟩
  · rw [upd_ne (ne_of_none e hp)]; exact e
  · rw [upd_ne (ne_of_none (h _ _ e) hp)]; exact h _ _ e
theorem Ext.freeze (e : Ext G H G' H') {p : Addr} {o : HO} (hp : H' p = some o) (hn : H p = none) (gn : G' p = none) : Ext G H (upd G' p o) H' := by
  refine ⟨e.hh, fun b u q => ?_, fun b u q => ?_, fun b u q => ?_⟩
  · rw [upd_ne (ne_of_none (e.gg _ _ q) gn)]; exact e.gg _ _ q
  · by_cases hb : b = p
    · subst hb; rw [upd_same] at q; cases q; exact hp
    · rw [upd_ne hb] at q; exact e.gh _ _ q
  · by_cases hb : b = p
    · subst hb; exact .inr hn
    · rw [upd_ne hb] at q; exact e.nw _ _ q

inductive PV where
  | sh (d : D) | ow (ds : List D)
  deriving Inhabited
noncomputable abbrev Rho := List (Option PV)

set_option genSizeOf false in
set_option genInjectivity false in
structure EnvR (K : PySem.W.Frag) (G0 H0 : Hp) (ρ : Rho) (σ : St) (G H : Hp) : Prop where
  ext : Ext G0 H0 G H
  len : ρ.length = σ.length
  sh : ∀ (i : Nat) d, ρ[i]? = some (some (.sh d)) → ∃ v, σ[i]? = some (some v) ∧ Rep K G v d
  ow : ∀ (i : Nat) ds, ρ[i]? = some (some (.ow ds)) → ∃ a xs, σ[i]? = some (some (.ref a)) ∧ H a = some (.lst xs) ∧ G a = none ∧ H0 a = none ∧ Reps K G xs ds
  ne : ∀ (i j : Nat) ds es, i ≠ j → ρ[i]? = some (some (.ow ds)) → ρ[j]? = some (some (.ow es)) → σ[i]? ≠ σ[j]?

theorem EnvR.by {ρ : Rho} {σ : St} (E : EnvR K G0 H0 ρ σ G H) (x : Ext G H G' H') : EnvR K G0 H0 ρ σ G' H' where
  ext := E.ext.trans x
  len := E.len
  sh := fun i d e => let ⟨v, h1, h2⟩ := E.sh i d e; ⟨v, h1, h2.mono x.gg⟩
  ow := fun i ds e => by
    obtain ⟨a, xs, h1, h2, h3, h4, h5⟩ := E.ow i ds e
    refine ⟨a, xs, h1, x.hh _ _ h2, ?_, h4, h5.mono x.gg⟩
    cases q : G' a with
    | none => rfl
    | some o =>
      rcases x.nw a o q with z | z
      · rw [h3] at z; cases z
      · rw [h2] at z; cases z
  ne := E.ne
theorem EnvR.gh {ρ : Rho} {σ : St} (E : EnvR K G0 H0 ρ σ G H) : Same G H := E.ext.gh
theorem EnvR.set {ρ : Rho} {σ : St} (E : EnvR K G0 H0 ρ σ G H) (i : Nat) {v : V} {d : D} (r : Rep K G v d) : EnvR K G0 H0 (ρ.set i (some (.sh d))) (σ.set i (some v)) G H where
  ext := E.ext
  len := by rw [List.length_set, List.length_set]; exact E.len
  sh := fun j e q => by
    rw [List.getElem?_set] at q ⊢
    by_cases h : i = j
    · subst h
      rw [if_pos rfl] at q ⊢
      by_cases hl : i < ρ.length
      · rw [if_pos hl] at q
        rw [if_pos (by rw [← E.len]; exact hl)]
        cases q
        exact ⟨v, rfl, r⟩
      · rw [if_neg hl] at q; cases q
    · rw [if_neg h] at q ⊢
      exact E.sh j e q
  ow := fun j e q => by
    rw [List.getElem?_set] at q ⊢
    by_cases h : i = j
    · subst h
      rw [if_pos rfl] at q
      by_cases hl : i < ρ.length
      · rw [if_pos hl] at q; cases q
      · rw [if_neg hl] at q; cases q
    · rw [if_neg h] at q ⊢
      exact E.ow j e q
  ne := fun j k e f hjk q1 q2 => by
    rw [List.getElem?_set] at q1 q2 ⊢
    by_cases h : i = j
    · subst h
      rw [if_pos rfl] at q1
      by_cases hl : i < ρ.length
      · rw [if_pos hl] at q1; cases q1
      · rw [if_neg hl] at q1; cases q1
    · rw [if_neg h] at q1 ⊢
      rw [List.getElem?_set]
      by_cases h' : i = k
      · subst h'
        rw [if_pos rfl] at q2
        by_cases hl : i < ρ.length
        · rw [if_pos hl] at q2; cases q2
        · rw [if_neg hl] at q2; cases q2
      · rw [if_neg h'] at q2 ⊢
        exact E.ne j k e f hjk q1 q2
theorem EnvR.setOw {ρ : Rho} {σ : St} (E : EnvR K G0 H0 ρ σ G H) (i : Nat) {a : Addr} {xs : List V} {ds : List D} (h1 : H a = some (.lst xs)) (h2 : G a = none) (h3 : H0 a = none) (r : Reps K G xs ds)
    (h4 : ∀ (j : Nat) es, ρ[j]? = some (some (.ow es)) → σ[j]? ≠ some (some (.ref a))) : EnvR K G0 H0 (ρ.set i (some (.ow ds))) (σ.set i (some (.ref a))) G H where
  ext := E.ext
  len := by rw [List.length_set, List.length_set]; exact E.len
  sh := fun j e q => by
    rw [List.getElem?_set] at q ⊢
    by_cases h : i = j
    · subst h
      rw [if_pos rfl] at q
      by_cases hl : i < ρ.length
      · rw [if_pos hl] at q; cases q
      · rw [if_neg hl] at q; cases q
    · rw [if_neg h] at q ⊢
      exact E.sh j e q
  ow := fun j e q => by
    rw [List.getElem?_set] at q ⊢
    by_cases h : i = j
    · subst h
      rw [if_pos rfl] at q ⊢
      by_cases hl : i < ρ.length
      · rw [if_pos hl] at q
        rw [if_pos (by rw [← E.len]; exact hl)]
        cases q
        exact ⟨a, xs, rfl, h1, h2, h3, r⟩
      · rw [if_neg hl] at q; cases q
    · rw [if_neg h] at q ⊢
      exact E.ow j e q
  ne := fun j k e f hjk q1 q2 => by
    rw [List.getElem?_set] at q1 q2 ⊢
    rw [List.getElem?_set]
    by_cases h : i = j
    · subst h
      rw [if_pos rfl] at q1 ⊢
      by_cases hl : i < ρ.length
      · rw [if_pos (by rw [← E.len]; exact hl)]
        rw [if_neg hjk] at q2 ⊢
        exact fun z => h4 k f q2 z.symm
      · rw [if_neg hl] at q1; cases q1
    · rw [if_neg h] at q1 ⊢
      by_cases h' : i = k
      · subst h'
        rw [if_pos rfl] at q2 ⊢
        by_cases hl : i < ρ.length
        · rw [if_pos (by rw [← E.len]; exact hl)]
          exact h4 j e q1
        · rw [if_neg hl] at q2; cases q2
      · rw [if_neg h'] at q2 ⊢
        exact E.ne j k e f hjk q1 q2
theorem EnvR.mut {ρ : Rho} {σ : St} (E : EnvR K G0 H0 ρ σ G H) {i : Nat} {a : Addr} {xs ys : List V} {ds es : List D} (hi : ρ[i]? = some (some (.ow ds))) (hs : σ[i]? = some (some (.ref a))) (h1 : H a = some (.lst xs)) (h2 : G a = none) (h3 : H0 a = none)
    (r : Reps K G ys es) : EnvR K G0 H0 (ρ.set i (some (.ow es))) σ G (upd H a (.lst ys)) := by
  have E' : EnvR K G0 H0 ρ σ G H := E
  have il : i < ρ.length := (List.getElem?_eq_some_iff.mp hi).1
  refine ⟨⟨fun b o q => ?_, E.ext.gg, fun b o q => ?_, E.ext.nw⟩, by rw [List.length_set]; exact E.len, fun j e q => ?_, fun j e q => ?_, fun j k e f hjk q1 q2 => ?_⟩
  · rw [upd_ne (ne_of_none q h3)]; exact E.ext.hh _ _ q
  · rw [upd_ne (ne_of_none q h2)]; exact E.ext.gh _ _ q
  · rw [List.getElem?_set] at q
    by_cases h : i = j
    · rw [if_pos h, if_pos il] at q; cases q
    · rw [if_neg h] at q; exact E.sh j e q
  · rw [List.getElem?_set] at q
    by_cases h : i = j
    · subst h
      rw [if_pos rfl, if_pos il] at q
      cases q
      exact ⟨a, ys, hs, upd_same, h2, h3, r⟩
    · rw [if_neg h] at q
      obtain ⟨b, zs, g1, g2, g3, g4, g5⟩ := E.ow j e q
      refine ⟨b, zs, g1, ?_, g3, g4, g5⟩
      rw [upd_ne]
      · exact g2
      · intro z
        subst z
        exact E.ne i j ds e h hi q (hs.trans g1.symm)
  · rw [List.getElem?_set] at q1 q2
    by_cases h : i = j
    · subst h
      rw [if_neg hjk] at q2
      exact E.ne i k ds f hjk hi q2
    · rw [if_neg h] at q1
      by_cases h' : i = k
      · subst h'
        exact E.ne j i e ds hjk q1 hi
      · rw [if_neg h'] at q2
        exact E.ne j k e f hjk q1 q2
theorem EnvR.fix {ρ : Rho} {σ : St} (E : EnvR K G0 H0 ρ σ G H) {i : Nat} {ds : List D} (hi : ρ[i]? = some (some (.ow ds))) : ∃ G', Same G G' ∧ EnvR K G0 H0 (ρ.set i (some (.sh (.lst ds)))) σ G' H := by
  obtain ⟨a, xs, hs, h1, h2, h3, r⟩ := E.ow i ds hi
  have il : i < ρ.length := (List.getElem?_eq_some_iff.mp hi).1
  have sg : Same G (upd G a (.lst xs)) := fun b o q => by rw [upd_ne (ne_of_none q h2)]; exact q
  refine ⟨upd G a (.lst xs), sg, ?_⟩
  refine ⟨E.ext.freeze h1 h3 h2, by rw [List.length_set]; exact E.len, fun j e q => ?_, fun j e q => ?_, fun j k e f hjk q1 q2 => ?_⟩
  · rw [List.getElem?_set] at q
    by_cases h : i = j
    · subst h
      rw [if_pos rfl, if_pos il] at q
      cases q
      exact ⟨.ref a, hs, .lst (.inl (.inl upd_same)) (r.mono sg)⟩
    · rw [if_neg h] at q
      obtain ⟨v, g1, g2⟩ := E.sh j e q
      exact ⟨v, g1, g2.mono sg⟩
  · rw [List.getElem?_set] at q
    by_cases h : i = j
    · rw [if_pos h, if_pos il] at q; cases q
    · rw [if_neg h] at q
      obtain ⟨b, zs, g1, g2, g3, g4, g5⟩ := E.ow j e q
      refine ⟨b, zs, g1, g2, ?_, g4, g5.mono sg⟩
      rw [upd_ne]
      · exact g3
      · intro z
        subst z
        exact E.ne i j ds e h hi q (hs.trans g1.symm)
  · rw [List.getElem?_set] at q1 q2
    by_cases h : i = j
    · rw [if_pos h, if_pos il] at q1; cases q1
    · rw [if_neg h] at q1
      by_cases h' : i = k
      · rw [if_pos h', if_pos il] at q2; cases q2
      · rw [if_neg h'] at q2
        exact E.ne j k e f hjk q1 q2
end
end PD

set_option Elab.async false
set_option linter.all false
set_option maxRecDepth 100000
namespace PD
open PySem PySem.Spec L2

theorem pe_imp {X : Cx} {e : Expr} {t t' : TE} (h : PE X e t) (i : ∀ σ H Q, t' σ H Q → t σ H Q) : PE X e t' := fun pins s σ H Q I q => h pins s σ H Q I (i σ H Q q)
theorem pt_imp {X : Cx} {e : Expr} {t t' : TT} (h : PT X e t) (i : ∀ σ H Q, t' σ H Q → t σ H Q) : PT X e t' := fun pins s σ H Q I q => h pins s σ H Q I (i σ H Q q)
theorem pw_imp {X : Cx} {e : Expr} {t t' : TT} (h : PW X e t) (i : ∀ σ H Q, t' σ H Q → t σ H Q) : PW X e t' := fun whole pins s σ H Q I q => h whole pins s σ H Q I (i σ H Q q)
theorem pa_imp {X : Cx} {es : List Expr} {t t' : TA} (h : PA X es t) (i : ∀ σ H Q, t' σ H Q → t σ H Q) : PA X es t' := fun pos pins s σ H Q I q => h pos pins s σ H Q I (i σ H Q q)

noncomputable def notStar : Expr → Bool
  | .Starred .. => false
  | _ => true
theorem star_cons {e : Expr} {es : List Expr} {env : Env} (h : notStar e = true) : starEach (e :: es) env = (false, eval e env) :: starEach es env := by
  cases e <;> first | rfl | cases h
theorem star_any {pos : Pos} {env : Env} : ∀ {es : List Expr}, es.all notStar = true → (backTo pos (starEach es env)).any (·.1) = false
  | [], _ => rfl
  | e :: es, h => by
    rw [List.all_cons, Bool.and_eq_true] at h
    rw [star_cons h.1]
    have ih := star_any (pos := pos) (env := env) h.2
    simp only [backTo, List.map_cons, List.any_cons, Bool.false_or] at ih ⊢
    exact ih
inductive RepP (K : PySem.W.Frag) (G H : Hp) : V → D → Prop where
  | rep {v : V} {d : D} (r : Rep K G v d) : RepP K G H v d
  | own {a : Addr} {xs : List V} {ds : List D} (h : H a = some (.lst xs)) (r : Reps K G xs ds) : RepP K G H (.ref a) (.lst ds)
inductive RepPs (K : PySem.W.Frag) (G H : Hp) : List V → List D → Prop where
  | nil : RepPs K G H [] []
  | cons {v : V} {d : D} {vs : List V} {ds : List D} (h : RepP K G H v d) (r : RepPs K G H vs ds) : RepPs K G H (v :: vs) (d :: ds)
section
variable {K : PySem.W.Frag} {G G' H H' : Hp}
theorem RepP.mono (s : Same G G') (t : Same H H') {v : V} {d : D} (r : RepP K G H v d) : RepP K G' H' v d := by
  cases r with
  | rep r => exact .rep (r.mono s)
  | own h r => exact .own (t _ _ h) (r.mono s)
theorem RepPs.one {vs : List V} {d : D} (r : RepPs K G H vs [d]) : ∃ v, vs = [v] ∧ RepP K G H v d := by
  cases r with | cons h r => cases r; exact ⟨_, rfl, h⟩
theorem RepPs.two {vs : List V} {d e : D} (r : RepPs K G H vs [d, e]) : ∃ v u, vs = [v, u] ∧ RepP K G H v d ∧ RepP K G H u e := by
  cases r with | cons h r => obtain ⟨u, rfl, h2⟩ := r.one; exact ⟨_, u, rfl, h, h2⟩
theorem RepP.int_inv {v : V} {i : Int} (r : RepP K G H v (.int i)) : v = .int i := by
  cases r with | rep r => cases r; rfl
theorem RepP.bl_inv {v : V} {b : Bool} (r : RepP K G H v (.bl b)) : v = .bl b := by
  cases r with | rep r => cases r; rfl
theorem RepP.str_inv {v : V} {x : Str} (r : RepP K G H v (.str x)) : v = .str x := by
  cases r with | rep r => cases r; rfl
theorem RepP.non_inv {v : V} (r : RepP K G H v .non) : v = .non := by
  cases r with | rep r => cases r; rfl
theorem RepP.tup_inv (s : Same G H) {v : V} {ds : List D} (r : RepP K G H v (.tup ds)) : ∃ a xs, v = .ref a ∧ SqT K H a xs ∧ Reps K G xs ds ∧ SqT K G a xs := by
  cases r with | rep r => cases r with | tup h r => exact ⟨_, _, rfl, Same.sqT s h, r, h⟩
theorem RepP.lst_inv (s : Same G H) {v : V} {ds : List D} (r : RepP K G H v (.lst ds)) : ∃ a xs, v = .ref a ∧ SqL K H a xs ∧ Reps K G xs ds := by
  cases r with
  | rep r => cases r with | lst h r => exact ⟨_, _, rfl, Same.sqL s h, r⟩
  | own h r => exact ⟨_, _, rfl, .inl (.inl h), r⟩
theorem Rep.tup_inv (s : Same G H) {v : V} {ds : List D} (r : Rep K G v (.tup ds)) : ∃ a xs, v = .ref a ∧ SqT K H a xs ∧ Reps K G xs ds ∧ SqT K G a xs := RepP.tup_inv (H := H) s (.rep r)
end

noncomputable def T (K : PySem.W.Frag) (f : Rho → Option D) : TE := fun σ H Q => ∃ ρ G0 H0 G d, EnvR K G0 H0 ρ σ G H ∧ f ρ = some d ∧ ∀ v H' G', Ext G H G' H' → Rep K G' v d → Q v H'
noncomputable def TR (K : PySem.W.Frag) (f : Rho → Option D) : TE := fun σ H Q => ∃ ρ G0 H0 G d, EnvR K G0 H0 ρ σ G H ∧ f ρ = some d ∧ ∀ v H' G', Ext G H G' H' → RepP K G' H' v d → Q v H'
noncomputable def TF (K : PySem.W.Frag) (f : Rho → Option (List D)) : TE := fun σ H Q => ∃ ρ G0 H0 G ds, EnvR K G0 H0 ρ σ G H ∧ f ρ = some ds ∧
  ∀ a xs H' G', Ext G H G' H' → H' a = some (.lst xs) → G' a = none → H a = none → Reps K G' xs ds → Q (.ref a) H'
noncomputable def Tt (K : PySem.W.Frag) (f : Rho → Option Bool) : TT := fun σ H Q => ∃ ρ G0 H0 G b, EnvR K G0 H0 ρ σ G H ∧ f ρ = some b ∧ ∀ H' G', Ext G H G' H' → Q b H'
noncomputable def Ta (K : PySem.W.Frag) (f : Rho → Option (List D)) : TA := fun σ H Q => ∃ ρ G0 H0 G ds, EnvR K G0 H0 ρ σ G H ∧ f ρ = some ds ∧ ∀ vs H' G', Ext G H G' H' → Reps K G' vs ds → Q vs H'
noncomputable def TaR (K : PySem.W.Frag) (f : Rho → Option (List D)) : TA := fun σ H Q => ∃ ρ G0 H0 G ds, EnvR K G0 H0 ρ σ G H ∧ f ρ = some ds ∧ ∀ vs H' G', Ext G H G' H' → RepPs K G' H' vs ds → Q vs H'
noncomputable def Ev (X : Cx) (e : Expr) (f : Rho → Option D) : Prop := PE X e (T X.K f)
noncomputable def Rv (X : Cx) (e : Expr) (f : Rho → Option D) : Prop := PE X e (TR X.K f)
noncomputable def Fv (X : Cx) (e : Expr) (f : Rho → Option (List D)) : Prop := PE X e (TF X.K f)
noncomputable def Ts (X : Cx) (e : Expr) (f : Rho → Option Bool) : Prop := PT X e (Tt X.K f)
noncomputable def Tw (X : Cx) (e : Expr) (f : Rho → Option Bool) : Prop := PW X e (Tt X.K f)
noncomputable def Av (X : Cx) (es : List Expr) (f : Rho → Option (List D)) : Prop := PA X es (Ta X.K f)
noncomputable def Ar (X : Cx) (es : List Expr) (f : Rho → Option (List D)) : Prop := PA X es (TaR X.K f)

noncomputable def b1 {α β : Type} (f : Rho → Option α) (k : α → Option β) : Rho → Option β := fun ρ => (f ρ).bind k
theorem b1_some {α β : Type} {f : Rho → Option α} {k : α → Option β} {ρ : Rho} {z : β} (h : b1 f k ρ = some z) : ∃ x, f ρ = some x ∧ k x = some z := by
  unfold b1 at h
  cases q : f ρ with
  | none => rw [q] at h; cases h
  | some x => rw [q] at h; exact ⟨x, rfl, h⟩
section
variable {X : Cx} {e a b c : Expr} {es rest : List Expr} {f g h : Rho → Option D} {pos : Pos}
theorem Ev.r (h : Ev X e f) : Rv X e f := pe_imp h <| by rintro σ H Q ⟨ρ, G0, H0, G, d, E, hf, k⟩; exact ⟨ρ, G0, H0, G, d, E, hf, fun v H' G' x r => k v H' G' x (.rep r)⟩
theorem Fv.r {f : Rho → Option (List D)} (h : Fv X e f) : Rv X e (b1 f fun ds => some (.lst ds)) := pe_imp h <| by
  rintro σ H Q ⟨ρ, G0, H0, G, d, E, hf, k⟩
  obtain ⟨ds, e1, e2⟩ := b1_some hf
  cases e2
  exact ⟨ρ, G0, H0, G, ds, E, e1, fun a xs H' G' x h1 h2 h3 r => k (.ref a) H' G' x (.own h1 r)⟩
theorem Fv.v {f : Rho → Option (List D)} (h : Fv X e f) : Ev X e (b1 f fun ds => some (.lst ds)) := pe_imp h <| by
  rintro σ H Q ⟨ρ, G0, H0, G, d, E, hf, k⟩
  obtain ⟨ds, e1, e2⟩ := b1_some hf
  cases e2
  refine ⟨ρ, G0, H0, G, ds, E, e1, fun a xs H' G' x h1 h2 h3 r => k (.ref a) H' _ (x.freeze h1 h3 h2) ?_⟩
  exact .lst (.inl (.inl upd_same)) (r.mono fun b o z => by rw [upd_ne (ne_of_none z h2)]; exact z)

noncomputable def getS (i : Nat) (ρ : Rho) : Option D := match ρ[i]? with
  | some (some (.sh d)) => some d
  | _ => none
noncomputable def getR (i : Nat) (ρ : Rho) : Option D := match ρ[i]? with
  | some (some (.sh d)) => some d
  | some (some (.ow ds)) => some (.lst ds)
  | _ => none
theorem getS_some {i : Nat} {ρ : Rho} {d : D} (h : getS i ρ = some d) : ρ[i]? = some (some (.sh d)) := by
  unfold getS at h
  split at h
  · rename_i e; cases h; exact e
  · cases h
theorem t_var {i : Nat} (K : PySem.W.Frag) : ∀ σ H Q, T K (getS i) σ H Q → tVar i σ H Q := by
  rintro σ H Q ⟨ρ, G0, H0, G, d, E, hf, k⟩
  obtain ⟨v, h1, h2⟩ := E.sh i d (getS_some hf)
  exact ⟨v, h1, k v H G (Ext.refl E.gh) h2⟩
theorem t_varR {i : Nat} (K : PySem.W.Frag) : ∀ σ H Q, TR K (getR i) σ H Q → tVar i σ H Q := by
  rintro σ H Q ⟨ρ, G0, H0, G, d, E, hf, k⟩
  unfold getR at hf
  split at hf
  · rename_i e
    cases hf
    obtain ⟨v, h1, h2⟩ := E.sh i d e
    exact ⟨v, h1, k v H G (Ext.refl E.gh) (.rep h2)⟩
  · rename_i ds e
    cases hf
    obtain ⟨a, xs, h1, h2, h3, h4, h5⟩ := E.ow i ds e
    exact ⟨.ref a, h1, k _ H G (Ext.refl E.gh) (.own h2 h5)⟩
  · cases hf
theorem vv (i : Nat) {x : Str} {pos : Pos} (hN : X.N[i]? = some x := by rfl) (hv : Vis X.env.scope x := by first | exact Or.inl rfl | exact Or.inr (Or.inl rfl) | exact Or.inr (Or.inr rfl)) (hd : (x == ("__debug__" : Str)) = false := by decide)
    (hcd : (x == ("__classdict__" : Str)) = false := by decide) : Ev X (.Name x pos) (getS i) := pe_imp (pe_var hN hv hd hcd) (t_var _)
theorem vr (i : Nat) {x : Str} {pos : Pos} (hN : X.N[i]? = some x := by rfl) (hv : Vis X.env.scope x := by first | exact Or.inl rfl | exact Or.inr (Or.inl rfl) | exact Or.inr (Or.inr rfl)) (hd : (x == ("__debug__" : Str)) = false := by decide)
    (hcd : (x == ("__classdict__" : Str)) = false := by decide) : Rv X (.Name x pos) (getR i) := pe_imp (pe_var hN hv hd hcd) (t_varR _)
theorem t_cst {K : PySem.W.Frag} {v : V} {d : D} (r : ∀ G, Rep K G v d) : ∀ σ H Q, T K (fun _ => some d) σ H Q → tC v σ H Q := by
  rintro σ H Q ⟨ρ, G0, H0, G, d', E, hf, k⟩
  cases hf
  exact k v H G (Ext.refl E.gh) (r G)
theorem ev_int {i : Int} {j pos} : Ev X (.Constant (.int i) j pos) (fun _ => some (.int i)) := pe_imp pe_int (t_cst fun _ => .int i)
theorem ev_bl {i : Bool} {j pos} : Ev X (.Constant (.bool i) j pos) (fun _ => some (.bl i)) := pe_imp pe_bl (t_cst fun _ => .bl i)
theorem ev_non {j pos} : Ev X (.Constant .none j pos) (fun _ => some .non) := pe_imp pe_non (t_cst fun _ => .non)
theorem ev_str {x : Str} {j pos} : Ev X (.Constant (.str x) j pos) (fun _ => some (.str x)) := pe_imp pe_str (t_cst fun _ => .str x)
noncomputable def OpD (K : PySem.W.Frag) (r : R2) (opf : D → D → Option D) : Prop := ∀ (v u : V) (x y : D) (G H : Hp) (Q : VK) (d : D), Same G H → RepP K G H v x → RepP K G H u y → opf x y = some d →
  (∀ v' H' G', Ext G H G' H' → Rep K G' v' d → Q v' H') → r v u H Q
noncomputable def b2 {α β γ : Type} (f : Rho → Option α) (g : Rho → Option β) (k : α → β → Option γ) : Rho → Option γ := fun ρ => (f ρ).bind fun x => (g ρ).bind fun y => k x y
theorem b2_some {α β γ : Type} {f : Rho → Option α} {g : Rho → Option β} {k : α → β → Option γ} {ρ : Rho} {z : γ} (h : b2 f g k ρ = some z) : ∃ x y, f ρ = some x ∧ g ρ = some y ∧ k x y = some z := by
  unfold b2 at h
  cases q : f ρ with
  | none => rw [q] at h; cases h
  | some x =>
    rw [q] at h
    cases q' : g ρ with
    | none => simp only [Option.bind_some, q', Option.bind_none] at h; cases h
    | some y =>
      simp only [Option.bind_some, q'] at h
      exact ⟨x, y, rfl, rfl, h⟩
theorem t_op {K : PySem.W.Frag} {r : R2} {opf : D → D → Option D} (hd : OpD K r opf) : ∀ σ H Q, T K (b2 f g opf) σ H Q → tOp r (TR K f) (TR K g) σ H Q := by
  rintro σ H Q ⟨ρ, G0, H0, G, d, E, hf, k⟩
  obtain ⟨x, y, e1, e2, e3⟩ := b2_some hf
  refine ⟨ρ, G0, H0, G, x, E, e1, fun v H1 G1 x1 r1 => ⟨ρ, G0, H0, G1, y, E.by x1, e2, fun u H2 G2 x2 r2 => ?_⟩⟩
  exact hd v u x y G2 H2 Q d x2.gh (r1.mono x2.gg x2.hh) r2 e3 fun v' H' G' x3 r3 => k v' H' G' ((x1.trans x2).trans x3) r3
theorem ev_bin {op : Operator} {r : R2} {opf : D → D → Option D} (ho : OpR X (binaryOp op) r) (hd : OpD X.K r opf) (ha : Rv X a f) (hb : Rv X b g) : Ev X (.BinOp a op b pos) (b2 f g opf) := pe_imp (pe_op ho ha hb) (t_op hd)
theorem ev_cmp {op : CmpOp} {r : R2} {opf : D → D → Option D} (ho : OpR X (compareOp op) r) (hd : OpD X.K r opf) (ha : Rv X a f) (hb : Rv X b g) (hm : behindInMarks op b = false) : Ev X (.Compare a [op] [b] pos) (b2 f g opf) := pe_imp (pe_cmpR ho ha hb hm) (t_op hd)
noncomputable def UnD (K : PySem.W.Frag) (r : V → Hp → VK → Prop) (opf : D → Option D) : Prop := ∀ (v : V) (x : D) (G H : Hp) (Q : VK) (d : D), Same G H → RepP K G H v x → opf x = some d →
  (∀ v' H' G', Ext G H G' H' → Rep K G' v' d → Q v' H') → r v H Q
theorem ev_un {op : UnaryOp} {r : V → Hp → VK → Prop} {opf : D → Option D} (ho : UnR X (unaryOp op) r) (hd : UnD X.K r opf) (ha : Rv X a f) : Ev X (.UnaryOp op a pos) (b1 f opf) := pe_imp (pe_un ho ha) <| by
  rintro σ H Q ⟨ρ, G0, H0, G, d, E, hf, k⟩
  obtain ⟨x, e1, e2⟩ := b1_some hf
  exact ⟨ρ, G0, H0, G, x, E, e1, fun v H1 G1 x1 r1 => hd v x G1 H1 Q d x1.gh r1 e2 fun v' H' G' x3 r3 => k v' H' G' (x1.trans x3) r3⟩

noncomputable def andD (x : D) (k : Option D) : Option D := match x with
  | .bl true => k
  | .bl false => some (.bl false)
  | _ => none
noncomputable def orD (x : D) (k : Option D) : Option D := match x with
  | .bl true => some (.bl true)
  | .bl false => k
  | _ => none
noncomputable def notD (x : D) : Option D := match x with
  | .bl b => some (.bl (!b))
  | _ => none
theorem ev_one {op} (h : Ev X a f) : Ev X (.BoolOp op [a] pos) f := pe_one h
theorem ev_and (ha : Rv X a f) (hb : Ev X (.BoolOp .And (b :: rest) pos) g) : Ev X (.BoolOp .And (a :: b :: rest) pos) (fun ρ => (f ρ).bind fun x => andD x (g ρ)) := pe_imp (pe_and ha hb) <| by
  rintro σ H Q ⟨ρ, G0, H0, G, d, E, hf, k⟩
  obtain ⟨x, e1, e2⟩ : ∃ x, f ρ = some x ∧ andD x (g ρ) = some d := b1_some (k := fun x => andD x (g ρ)) hf
  refine ⟨ρ, G0, H0, G, x, E, e1, fun v H1 G1 x1 r1 => ?_⟩
  cases x with
  | bl b =>
    cases r1.bl_inv
    refine ⟨b, rfl, ?_⟩
    cases b with
    | true => exact iteT ⟨ρ, G0, H0, G1, d, E.by x1, e2, fun u H2 G2 x2 r2 => k u H2 G2 (x1.trans x2) r2⟩
    | false =>
      cases e2
      exact iteF (k _ H1 G1 x1 (.bl false))
  | _ => cases e2
theorem ev_not (ha : Rv X a f) : Ev X (.UnaryOp .Not a pos) (b1 f notD) := pe_imp (pe_not ha) <| by
  rintro σ H Q ⟨ρ, G0, H0, G, d, E, hf, k⟩
  obtain ⟨x, e1, e2⟩ := b1_some hf
  refine ⟨ρ, G0, H0, G, x, E, e1, fun v H1 G1 x1 r1 => ?_⟩
  cases x with
  | bl b =>
    cases r1.bl_inv
    cases e2
    exact ⟨b, rfl, k _ H1 G1 x1 (.bl _)⟩
  | _ => cases e2
noncomputable def chainD (opf opf' : D → D → Option D) (f g h : Rho → Option D) : Rho → Option D := fun ρ => (f ρ).bind fun x => (g ρ).bind fun y => (opf x y).bind fun z => andD z ((h ρ).bind fun w => opf' y w)
noncomputable def isB : D → Option Bool
  | .bl b => some b
  | _ => none
noncomputable def truD : D → Option Bool
  | .non => some false
  | .bl b => some b
  | .int i => some (i != 0)
  | .str y => if y.length ≤ sizeLine then some ((y.length : Int) != 0) else none
  | .tup xs => some (!xs.isEmpty)
  | .lst xs => some (!xs.isEmpty)
theorem reps_empty {K : PySem.W.Frag} {G : Hp} {xs : List V} {ds : List D} (r : Reps K G xs ds) : (!ds.isEmpty) = !xs.isEmpty := by cases r <;> rfl
theorem ts_tru (ha : Rv X a f) (he : ∀ whole, isTrue a X.env whole = (do let v ← whole; standAt a.pos; holding [v] (truthy v)) := by intro _; rfl) : Ts X a (b1 f truD) := pt_imp (pt_truth ha he) <| by
  rintro σ H Q ⟨ρ, G0, H0, G, b, E, hf, k⟩
  obtain ⟨x, e1, e2⟩ := b1_some hf
  refine ⟨ρ, G0, H0, G, x, E, e1, fun v H1 G1 x1 r1 => ?_⟩
  refine ⟨b, ?_, k H1 G1 x1⟩
  cases x with
  | non => cases r1.non_inv; cases e2; rfl
  | bl c => cases r1.bl_inv; cases e2; rfl
  | int i => cases r1.int_inv; cases e2; rfl
  | str y =>
    cases r1.str_inv
    have e2 : (if y.length ≤ sizeLine then some ((y.length : Int) != 0) else none) = some b := e2
    split at e2
    · rename_i hl; cases e2; exact ⟨hl, rfl⟩
    · cases e2
  | tup xs =>
    obtain ⟨p, ys, rfl, h1, h2, _⟩ := r1.tup_inv x1.gh
    cases e2
    exact .inr (.inl ⟨ys, h1, reps_empty h2⟩)
  | lst xs =>
    obtain ⟨p, ys, rfl, h1, h2⟩ := r1.lst_inv x1.gh
    cases e2
    exact .inl ⟨ys, h1, reps_empty h2⟩
theorem t_test {K : PySem.W.Frag} {t : TE} (i : ∀ σ H Q, T K f σ H Q → t σ H Q) : ∀ σ H Q, Tt K (b1 f isB) σ H Q → tTest t σ H Q := by
  rintro σ H Q ⟨ρ, G0, H0, G, b, E, hf, k⟩
  obtain ⟨x, e1, e2⟩ := b1_some hf
  refine i σ H _ ⟨ρ, G0, H0, G, x, E, e1, fun v H1 G1 x1 r1 => ?_⟩
  cases x with
  | bl c =>
    cases e2
    have e : v = .bl b := by cases r1; rfl
    exact ⟨b, e, k H1 G1 x1⟩
  | _ => cases e2
theorem ts_cmp {op : CmpOp} {r : R2} {opf : D → D → Option D} (ho : OpR X (compareOp op) r) (hd : OpD X.K r opf) (ha : Rv X a f) (hb : Rv X b g) (hm : behindInMarks op b = false) : Ts X (.Compare a [op] [b] pos) (b1 (b2 f g opf) isB) :=
  pt_imp (pt_cmpR ho ha hb hm) (t_test (t_op hd))
section
variable {p q : Rho → Option Bool}
noncomputable def andB (p q : Rho → Option Bool) : Rho → Option Bool := fun ρ => (p ρ).bind fun x => if x = true then q ρ else some false
noncomputable def orB (p q : Rho → Option Bool) : Rho → Option Bool := fun ρ => (p ρ).bind fun x => if x = true then some true else q ρ
theorem tw_and1 (ha : Ts X a p) : Tw X (.BoolOp .And [a] pos) p := pw_and1 ha
theorem tw_or1 (ha : Ts X a p) : Tw X (.BoolOp .Or [a] pos) p := pw_or1 ha
theorem tw_and (ha : Ts X a p) (hb : Tw X (.BoolOp .And (b :: rest) pos) q) : Tw X (.BoolOp .And (a :: b :: rest) pos) (andB p q) := pw_imp (pw_and ha hb) <| by
  rintro σ H Q ⟨ρ, G0, H0, G, b, E, hf, k⟩
  obtain ⟨x, e1, e2⟩ : ∃ x, p ρ = some x ∧ (if x = true then q ρ else some false) = some b := b1_some (k := fun x => if x = true then q ρ else some false) hf
  refine ⟨ρ, G0, H0, G, x, E, e1, fun H1 G1 x1 => ?_⟩
  cases x with
  | true => exact iteT ⟨ρ, G0, H0, G1, b, E.by x1, by rw [if_pos rfl] at e2; exact e2, fun H2 G2 x2 => k H2 G2 (x1.trans x2)⟩
  | false =>
    rw [if_neg Bool.false_ne_true] at e2
    cases e2
    exact iteF (k H1 G1 x1)
theorem tw_or (ha : Ts X a p) (hb : Tw X (.BoolOp .Or (b :: rest) pos) q) : Tw X (.BoolOp .Or (a :: b :: rest) pos) (orB p q) := pw_imp (pw_or ha hb) <| by
  rintro σ H Q ⟨ρ, G0, H0, G, b, E, hf, k⟩
  obtain ⟨x, e1, e2⟩ : ∃ x, p ρ = some x ∧ (if x = true then some true else q ρ) = some b := b1_some (k := fun x => if x = true then some true else q ρ) hf
  refine ⟨ρ, G0, H0, G, x, E, e1, fun H1 G1 x1 => ?_⟩
  cases x with
  | true =>
    rw [if_pos rfl] at e2
    cases e2
    exact iteT (k H1 G1 x1)
  | false => exact iteF ⟨ρ, G0, H0, G1, b, E.by x1, by rw [if_neg Bool.false_ne_true] at e2; exact e2, fun H2 G2 x2 => k H2 G2 (x1.trans x2)⟩
theorem ts_w (h : Tw X e p) : Ts X e p := h.pt
theorem ts_not (ha : Ts X a p) : Ts X (.UnaryOp .Not a pos) (b1 p fun x => some (!x)) := pt_imp (pt_not ha) <| by
  rintro σ H Q ⟨ρ, G0, H0, G, b, E, hf, k⟩
  obtain ⟨x, e1, e2⟩ := b1_some hf
  cases e2
  exact ⟨ρ, G0, H0, G, x, E, e1, fun H1 G1 x1 => k H1 G1 x1⟩
noncomputable def iteV (p : Rho → Option Bool) (f g : Rho → Option D) : Rho → Option D := fun ρ => (p ρ).bind fun x => if x = true then f ρ else g ρ
theorem ev_if (hc : Ts X c p) (ha : Ev X a f) (hb : Ev X b g) : Ev X (.IfExp c a b pos) (iteV p f g) := pe_imp (pe_ifExp hc ha hb) <| by
  rintro σ H Q ⟨ρ, G0, H0, G, d, E, hf, k⟩
  obtain ⟨x, e1, e2⟩ : ∃ x, p ρ = some x ∧ (if x = true then f ρ else g ρ) = some d := b1_some (k := fun x => if x = true then f ρ else g ρ) hf
  refine ⟨ρ, G0, H0, G, x, E, e1, fun H1 G1 x1 => ?_⟩
  cases x with
  | true => exact iteT ⟨ρ, G0, H0, G1, d, E.by x1, by rw [if_pos rfl] at e2; exact e2, fun v H2 G2 x2 r2 => k v H2 G2 (x1.trans x2) r2⟩
  | false => exact iteF ⟨ρ, G0, H0, G1, d, E.by x1, by rw [if_neg Bool.false_ne_true] at e2; exact e2, fun v H2 G2 x2 r2 => k v H2 G2 (x1.trans x2) r2⟩
end

noncomputable def cons2 (f : Rho → Option D) (fs : Rho → Option (List D)) : Rho → Option (List D) := b2 f fs fun x xs => some (x :: xs)
variable {fs : Rho → Option (List D)}
theorem av_nil : Av X [] (fun _ => some []) := pa_imp pa_nil <| by
  rintro σ H Q ⟨ρ, G0, H0, G, ds, E, hf, k⟩
  cases hf
  exact k [] H G (Ext.refl E.gh) .nil
theorem ar_nil : Ar X [] (fun _ => some []) := pa_imp pa_nil <| by
  rintro σ H Q ⟨ρ, G0, H0, G, ds, E, hf, k⟩
  cases hf
  exact k [] H G (Ext.refl E.gh) .nil
theorem av_cons (ha : Ev X e f) (hr : Av X es fs) (hs : starEach (e :: es) X.env = (false, eval e X.env) :: starEach es X.env := by exact star_cons rfl) : Av X (e :: es) (cons2 f fs) := pa_imp (pa_cons ha hr hs) <| by
  rintro σ H Q ⟨ρ, G0, H0, G, ds, E, hf, k⟩
  obtain ⟨x, xs, e1, e2, e3⟩ := b2_some hf
  cases e3
  exact ⟨ρ, G0, H0, G, x, E, e1, fun v H1 G1 x1 r1 => ⟨ρ, G0, H0, G1, xs, E.by x1, e2, fun vs H2 G2 x2 r2 => k (v :: vs) H2 G2 (x1.trans x2) (.cons (r1.mono x2.gg) r2)⟩⟩
theorem ar_cons (ha : Rv X e f) (hr : Ar X es fs) (hs : starEach (e :: es) X.env = (false, eval e X.env) :: starEach es X.env := by exact star_cons rfl) : Ar X (e :: es) (cons2 f fs) := pa_imp (pa_cons ha hr hs) <| by
  rintro σ H Q ⟨ρ, G0, H0, G, ds, E, hf, k⟩
  obtain ⟨x, xs, e1, e2, e3⟩ := b2_some hf
  cases e3
  exact ⟨ρ, G0, H0, G, x, E, e1, fun v H1 G1 x1 r1 => ⟨ρ, G0, H0, G1, xs, E.by x1, e2, fun vs H2 G2 x2 r2 => k (v :: vs) H2 G2 (x1.trans x2) (.cons (r1.mono x2.gg x2.hh) r2)⟩⟩
noncomputable def fit {α : Type} (n : Nat) (a : α) : Option α := if n ≤ sizeLine then some a else none
theorem fit_some {α : Type} {n : Nat} {a b : α} (h : fit n a = some b) : n ≤ sizeLine ∧ a = b := by
  unfold fit at h
  split at h
  · rename_i q; exact ⟨q, Option.some.inj h⟩
  · cases h
theorem ev_tup {x1} (ha : Av X es fs) : Ev X (.Tuple es x1 pos) (b1 fs fun ds => fit ds.length (.tup ds)) := pe_imp (pe_tup ha) <| by
  rintro σ H Q ⟨ρ, G0, H0, G, d, E, hf, k⟩
  obtain ⟨ds, e1, e2⟩ := b1_some hf
  obtain ⟨hz, rfl⟩ := fit_some e2
  refine ⟨ρ, G0, H0, G, ds, E, e1, fun vs H1 G1 x1 r1 => ⟨by rw [r1.length]; exact hz, fun p hp => ?_⟩⟩
  refine k (.ref p) _ _ (x1.trans (Ext.new x1.gh hp (.tup vs))) (.tup (.inl (.inl upd_same)) (r1.mono (Ext.new x1.gh hp (.tup vs)).gg))
theorem fv_lst (ha : Av X es fs) : Fv X (.List es pos) (b1 fs fun ds => fit ds.length ds) := pe_imp (pe_lst ha) <| by
  rintro σ H Q ⟨ρ, G0, H0, G, d, E, hf, k⟩
  obtain ⟨ds, e1, e2⟩ := b1_some hf
  obtain ⟨hz, rfl⟩ := fit_some e2
  refine ⟨ρ, G0, H0, G, ds, E, e1, fun vs H1 G1 x1 r1 => ⟨by rw [r1.length]; exact hz, fun p hp => ?_⟩⟩
  have gp : G1 p = none := x1.gh.free hp
  exact k p vs _ G1 (x1.trans (Ext.own x1.gh hp (.lst vs))) upd_same gp (x1.hh.free hp) r1

noncomputable def CallD (K : PySem.W.Frag) (r : List V → Hp → VK → Prop) (fn : List D → Option D) : Prop := ∀ (vs : List V) (ds : List D) (G H : Hp) (Q : VK) (d : D), Same G H → RepPs K G H vs ds → fn ds = some d →
  (∀ v' H' G', Ext G H G' H' → Rep K G' v' d → Q v' H') → r vs H Q
theorem t_call {K : PySem.W.Frag} {r : List V → Hp → VK → Prop} {fn : List D → Option D} (hd : CallD K r fn) : ∀ σ H Q, T K (b1 fs fn) σ H Q → tCB r (TaR K fs) σ H Q := by
  rintro σ H Q ⟨ρ, G0, H0, G, d, E, hf, k⟩
  obtain ⟨ds, e1, e2⟩ := b1_some hf
  exact ⟨ρ, G0, H0, G, ds, E, e1, fun vs H1 G1 x1 r1 => hd vs ds G1 H1 Q d x1.gh r1 e2 fun v' H' G' x3 r3 => k v' H' G' (x1.trans x3) r3⟩
variable {x : Str} {p : Pos} {id Ty : String} {r : List V → Hp → VK → Prop}
theorem ev_callB {fn : List D → Option D} (hc : CallR X (.builtin id) r) (hd : CallD X.K r fn) (hg : Gl X x) (hm : X.mg x = none) (hv : bootBuiltins x = some (.builtin id)) (ha : Ar X (e :: es) fs) (hn : x ≠ "__name__" := by decide) (hdb : (x == ("__debug__" : Str)) = false := by decide)
    (he : starEach (e :: es) X.env = (false, eval e X.env) :: starEach es X.env := by exact star_cons rfl) (hpl : (backTo pos (starEach es X.env)).any (·.1) = false := by exact star_any rfl) : Ev X (.Call (.Name x p) (e :: es) [] pos) (b1 fs fn) :=
  pe_imp (pe_callB hc hg hm hv ha hn hdb he hpl) (t_call hd)
theorem ev_callTy {fn : List D → Option D} (hc : CallR X (.type Ty) r) (hd : CallD X.K r fn) (hg : Gl X x) (hm : X.mg x = none) (hv : bootBuiltins x = some (.type Ty)) (ha : Ar X (e :: es) fs) (hn : x ≠ "__name__" := by decide) (hdb : (x == ("__debug__" : Str)) = false := by decide)
    (he : starEach (e :: es) X.env = (false, eval e X.env) :: starEach es X.env := by exact star_cons rfl) (hpl : (backTo pos (starEach es X.env)).any (·.1) = false := by exact star_any rfl) : Ev X (.Call (.Name x p) (e :: es) [] pos) (b1 fs fn) :=
  pe_imp (pe_callTy hc hg hm hv ha hn hdb he hpl) (t_call hd)
theorem ev_ix {r : R2} {opf : D → D → Option D} (hr : IxR X r) (hd : OpD X.K r opf) (ha : Rv X a f) (hb : Rv X b g) (hs : PlainIx b) : Ev X (.Subscript a b pos) (b2 f g opf) := pe_imp (pe_ix hr ha hb hs) (t_op hd)
end
end PD

set_option Elab.async false
set_option linter.all false
set_option maxRecDepth 100000
namespace PD
open PySem PySem.Spec L2
open PySem.SeqAt (EqAt RcAt RcNeAt)

mutual
inductive Sit (h : Heap) : Value → D → Prop where
  | non : Sit h .none .non
  | bl (b : Bool) : Sit h (.bool b) (.bl b)
  | int (i : Int) (t : Tok) : Sit h (.int i t) (.int i)
  | str (x : Str) (t : Tok) : Sit h (.str x t) (.str x)
  | tup {a : Addr} {its : List Value} {ds : List D} (e : h.IsTuple a its.toArray) (r : Sits h its ds) : Sit h (.ref a) (.tup ds)
  | lst {a : Addr} {its : List Value} {ds : List D} (e : h.IsList a its.toArray) (r : Sits h its ds) : Sit h (.ref a) (.lst ds)
inductive Sits (h : Heap) : List Value → List D → Prop where
  | nil : Sits h [] []
  | cons {u : Value} {d : D} {us : List Value} {ds : List D} (e : Sit h u d) (r : Sits h us ds) : Sits h (u :: us) (d :: ds)
end
theorem Sits.length {h : Heap} {us : List Value} {ds : List D} (a : Sits h us ds) : us.length = ds.length := by
  cases a with
  | nil => rfl
  | cons _ r => exact congrArg (· + 1) (Sits.length r)
theorem Sits.get {h : Heap} : ∀ {us : List Value} {ds : List D} (j : Nat) (h1 : j < us.length) (h2 : j < ds.length), Sits h us ds → Sit h us[j] ds[j]
  | _ :: _, _ :: _, 0, _, _, .cons e _ => e
  | _ :: _, _ :: _, j + 1, h1, h2, .cons _ r => Sits.get j (Nat.lt_of_succ_lt_succ h1) (Nat.lt_of_succ_lt_succ h2) r
mutual
theorem sit_of {X : Cx} {pins : List (Addr × Obj)} {σ : L2.St} {G H : Hp} {s : Shared} (I : Inv X pins σ H s) (gh : Same G H) {v : V} {d : D} {u : Value} (a : Rep X.K G v d) (r : RelV v u) : Sit s.heap u d := by
  cases a with
  | non => cases (show _ = Value.none from r); exact .non
  | bl b => cases (show _ = Value.bool b from r); exact .bl b
  | int i => obtain ⟨t, q⟩ := (show ∃ t, _ = Value.int i t from r); cases q; exact .int i t
  | str x => obtain ⟨t, q⟩ := (show ∃ t, _ = Value.str x t from r); cases q; exact .str x t
  | @tup a _ _ h rs =>
    cases (show _ = Value.ref a from r)
    obtain ⟨its, rv, p, _⟩ := I.tuple (Same.sqT gh h)
    exact .tup p (sits_of I gh rs rv)
  | @lst a _ _ h rs =>
    cases (show _ = Value.ref a from r)
    obtain ⟨its, rv, p, _⟩ := I.list (Same.sqL gh h)
    exact .lst p.isList (sits_of I gh rs rv)
theorem sits_of {X : Cx} {pins : List (Addr × Obj)} {σ : L2.St} {G H : Hp} {s : Shared} (I : Inv X pins σ H s) (gh : Same G H) {vs : List V} {ds : List D} {us : List Value} (a : Reps X.K G vs ds) (b : Vals vs us) : Sits s.heap us ds := by
  cases a with
  | nil => cases b; exact .nil
  | cons h rs =>
    cases b with
    | cons r t => exact .cons (sit_of I gh h r) (sits_of I gh rs t)
end
theorem sit_ofP {X : Cx} {pins : List (Addr × Obj)} {σ : L2.St} {G H : Hp} {s : Shared} (I : Inv X pins σ H s) (gh : Same G H) {v : V} {d : D} {u : Value} (h : RepP X.K G H v d) (r : RelV v u) : Sit s.heap u d := by
  cases h with
  | rep h => exact sit_of I gh h r
  | @own a xs ds h rs =>
    cases (show u = Value.ref a from r)
    obtain ⟨its, rv, p, _⟩ := I.list (SqL.of h)
    exact .lst p.isList (sits_of I gh rs rv)
theorem tup_inj {h : Heap} {a : Addr} {x y : List Value} (e : h.IsTuple a x.toArray) (f : h.IsTuple a y.toArray) : x = y := by
  obtain ⟨o, e1, _, n, d1⟩ := e
  obtain ⟨o', e2, _, n', d2⟩ := f
  rw [e1] at e2; cases e2
  rw [d1] at d2
  injection d2 with d3 _
  simpa using congrArg Array.toList d3
theorem lst_inj {h : Heap} {a : Addr} {x y : List Value} (e : h.IsList a x.toArray) (f : h.IsList a y.toArray) : x = y := by
  obtain ⟨o, e1, _, n, d1⟩ := e
  obtain ⟨o', e2, _, n', d2⟩ := f
  rw [e1] at e2; cases e2
  rw [d1] at d2
  injection d2 with d3 _
  simpa using congrArg Array.toList d3
theorem tup_lst {h : Heap} {a : Addr} {x y : Array Value} (e : h.IsTuple a x) (f : h.IsList a y) : False := by
  obtain ⟨o, e1, c1, n, d1⟩ := e
  obtain ⟨o', e2, c2, n', d2⟩ := f
  rw [e1] at e2; cases e2
  rw [c1] at c2
  exact absurd c2 (by decide)
mutual
theorem Sit.det {h : Heap} {u : Value} {d d' : D} (a : Sit h u d) (b : Sit h u d') : d = d' := by
  cases a with
  | non => cases b; rfl
  | bl _ => cases b; rfl
  | int _ _ => cases b; rfl
  | str _ _ => cases b; rfl
  | tup e r =>
    cases b with
    | tup e' r' =>
      have q := tup_inj e e'
      subst q
      exact congrArg D.tup (Sits.det r r')
    | lst e' r' => exact (tup_lst e e').elim
  | lst e r =>
    cases b with
    | lst e' r' =>
      have q := lst_inj e e'
      subst q
      exact congrArg D.lst (Sits.det r r')
    | tup e' r' => exact (tup_lst e' e).elim
theorem Sits.det {h : Heap} {us : List Value} {ds ds' : List D} (a : Sits h us ds) (b : Sits h us ds') : ds = ds' := by
  cases a with
  | nil => cases b; rfl
  | cons e r =>
    cases b with
    | cons e' r' => rw [Sit.det e e', Sits.det r r']
end

mutual
noncomputable def eqD : D → D → Bool
  | .non, .non => true
  | .bl a, .bl b => a == b
  | .bl a, .int b => (if a then 1 else 0) == b
  | .int a, .bl b => a == (if b then 1 else 0)
  | .int a, .int b => a == b
  | .str a, .str b => a == b
  | .tup xs, .tup ys => eqDs xs ys
  | .lst xs, .lst ys => eqDs xs ys
  | _, _ => false
noncomputable def eqDs : List D → List D → Bool
  | [], [] => true
  | x :: xs, y :: ys => eqD x y && eqDs xs ys
  | _, _ => false
end
mutual
theorem eqD_refl : ∀ x : D, eqD x x = true
  | .non => rfl
  | .bl a => by simp [eqD]
  | .int a => by simp [eqD]
  | .str a => by simp [eqD]
  | .tup xs => by rw [eqD]; exact eqDs_refl xs
  | .lst xs => by rw [eqD]; exact eqDs_refl xs
theorem eqDs_refl : ∀ xs : List D, eqDs xs xs = true
  | [] => rfl
  | x :: xs => by rw [eqDs, eqD_refl x, eqDs_refl xs]; rfl
end
mutual
noncomputable def dep : D → Nat
  | .tup xs => deps xs + 1
  | .lst xs => deps xs + 1
  | _ => 0
noncomputable def deps : List D → Nat
  | [] => 0
  | x :: xs => max (dep x) (deps xs)
end
theorem dep_le : ∀ {xs : List D} {j : Nat} (h : j < xs.length), dep xs[j] ≤ deps xs
  | _ :: _, 0, _ => by simp only [deps, List.getElem_cons_zero]; omega
  | _ :: xs, j + 1, h => by
    have := dep_le (xs := xs) (j := j) (Nat.lt_of_succ_lt_succ h)
    simp only [deps, List.getElem_cons_succ]; omega
theorem all_shift (n : Nat) (e : Nat → Bool) : (List.range (n + 1)).all e = (e 0 && (List.range n).all fun j => e (j + 1)) := by
  rw [List.range_succ_eq_map, List.all_cons, List.all_map]; rfl
theorem eqDs_all : ∀ (xs ys : List D), eqDs xs ys = ((List.range (min xs.length ys.length)).all (fun j => eqD (xs.getD j .non) (ys.getD j .non)) && xs.length == ys.length)
  | [], [] => rfl
  | [], y :: ys => by simp [eqDs]
  | x :: xs, [] => by simp [eqDs]
  | x :: xs, y :: ys => by
    rw [eqDs, eqDs_all xs ys]
    have e : min (x :: xs).length (y :: ys).length = min xs.length ys.length + 1 := by simp only [List.length_cons]; omega
    rw [e, all_shift]
    simp only [List.getD_cons_zero, List.getD_cons_succ, List.length_cons, Bool.and_assoc]
    congr 2
    exact (Bool.eq_iff_iff.mpr (by simp))
theorem units_in1 (A : Around) : A.in1.units = A.units + 1 := rfl
theorem items_at {s : Shared} {A : Around} {us zs : List Value} {xs ys : List D} (ru : Sits s.heap us xs) (rz : Sits s.heap zs ys)
    (ih : ∀ (x y : D) (u z : Value), min (dep x) (dep y) ≤ min (deps xs) (deps ys) → Sit s.heap u x → Sit s.heap z y → EqAt A.in1 s u z (eqD x y)) :
    ∀ j (h1 : j < us.toArray.size) (h2 : j < zs.toArray.size), EqAt A.in1 s us.toArray[j] zs.toArray[j] ((fun j => eqD (xs.getD j .non) (ys.getD j .non)) j) := fun j h1 h2 => by
  have l1 : j < us.length := by simpa using h1
  have l2 : j < zs.length := by simpa using h2
  have m1 : j < xs.length := by rw [← ru.length]; exact l1
  have m2 : j < ys.length := by rw [← rz.length]; exact l2
  have e1 : xs.getD j .non = xs[j] := by simp [List.getD, List.getElem?_eq_getElem m1]
  have e2 : ys.getD j .non = ys[j] := by simp [List.getD, List.getElem?_eq_getElem m2]
  dsimp only
  rw [e1, e2]
  simp only [List.getElem_toArray]
  have d1 := dep_le m1
  have d2 := dep_le m2
  exact ih _ _ _ _ (by first | assumption | exact Nat.le_of_lt ‹_› | omega) (ru.get j l1 m1) (rz.get j l2 m2)
theorem flatAt {s : Shared} {x y : D} {u z : Value} {A : Around} (h0 : min (dep x) (dep y) = 0) (hu : A.units < cLine) (su : Sit s.heap u x) (sz : Sit s.heap z y) : EqAt A s u z (eqD x y) ∧ RcAt A s u z (eqD x y) := by
  cases su with
  | non =>
    cases sz with
    | non =>
      exact ⟨(.same _ : EqAt A s _ _ true), (.none_none : RcAt A s _ _ true)⟩
    | bl b =>
      exact ⟨(.none_bool b : EqAt A s _ _ false), (.none_bool b : RcAt A s _ _ false)⟩
    | int b t2 =>
      exact ⟨(.none_int b t2 : EqAt A s _ _ false), (.none_int b t2 : RcAt A s _ _ false)⟩
    | str b t2 =>
      exact ⟨(.none_str b t2 : EqAt A s _ _ false), (.none_str b t2 : RcAt A s _ _ false)⟩
    | @tup b zs ys f rz =>
      exact ⟨(.none_tuple f hu : EqAt A s _ _ false), (.none_tuple f hu : RcAt A s _ _ false)⟩
    | @lst b zs ys f rz =>
      exact ⟨(.none_list f hu : EqAt A s _ _ false), (.none_list f hu : RcAt A s _ _ false)⟩
  | bl a =>
    cases sz with
    | non =>
      exact ⟨(.bool_none a : EqAt A s _ _ false), (.bool_none a : RcAt A s _ _ false)⟩
    | bl b =>
      exact ⟨(.bool_bool a b : EqAt A s _ _ (a == b)), (.bool_bool a b : RcAt A s _ _ (a == b))⟩
    | int b t2 =>
      exact ⟨(.bool_int a b t2 : EqAt A s _ _ ((if a then 1 else 0) == b)), (.bool_int a b t2 : RcAt A s _ _ ((if a then 1 else 0) == b))⟩
    | str b t2 =>
      exact ⟨(.bool_str a b t2 : EqAt A s _ _ false), (.bool_str a b t2 : RcAt A s _ _ false)⟩
    | @tup b zs ys f rz =>
      exact ⟨(.bool_tuple a f hu : EqAt A s _ _ false), (.bool_tuple a f hu : RcAt A s _ _ false)⟩
    | @lst b zs ys f rz =>
      exact ⟨(.bool_list a f hu : EqAt A s _ _ false), (.bool_list a f hu : RcAt A s _ _ false)⟩
  | int a t =>
    cases sz with
    | non =>
      exact ⟨(.int_none a t : EqAt A s _ _ false), (.int_none a t : RcAt A s _ _ false)⟩
    | bl b =>
      exact ⟨(.int_bool a t b : EqAt A s _ _ (a == (if b then 1 else 0))), (.int_bool a t b : RcAt A s _ _ (a == (if b then 1 else 0)))⟩
    | int b t2 =>
      exact ⟨(.int_int a t b t2 : EqAt A s _ _ (a == b)), (.int_int a t b t2 : RcAt A s _ _ (a == b))⟩
    | str b t2 =>
      exact ⟨(.int_str a t b t2 : EqAt A s _ _ false), (.int_str a t b t2 : RcAt A s _ _ false)⟩
    | @tup b zs ys f rz =>
      exact ⟨(.int_tuple a t f hu : EqAt A s _ _ false), (.int_tuple a t f hu : RcAt A s _ _ false)⟩
    | @lst b zs ys f rz =>
      exact ⟨(.int_list a t f hu : EqAt A s _ _ false), (.int_list a t f hu : RcAt A s _ _ false)⟩
  | str a t =>
    cases sz with
    | non =>
      exact ⟨(.str_none a t : EqAt A s _ _ false), (.str_none a t : RcAt A s _ _ false)⟩
    | bl b =>
      exact ⟨(.str_bool a t b : EqAt A s _ _ false), (.str_bool a t b : RcAt A s _ _ false)⟩
    | int b t2 =>
      exact ⟨(.str_int a t b t2 : EqAt A s _ _ false), (.str_int a t b t2 : RcAt A s _ _ false)⟩
    | str b t2 =>
      exact ⟨(.str_str a t b t2 : EqAt A s _ _ (a == b)), (.str_str a t b t2 : RcAt A s _ _ (a == b))⟩
    | @tup b zs ys f rz =>
      exact ⟨(.str_tuple a t f hu : EqAt A s _ _ false), (.str_tuple a t f hu : RcAt A s _ _ false)⟩
    | @lst b zs ys f rz =>
      exact ⟨(.str_list a t f hu : EqAt A s _ _ false), (.str_list a t f hu : RcAt A s _ _ false)⟩
  | @tup a us xs e ru =>
    cases sz with
    | non =>
      exact ⟨(.tuple_none e hu : EqAt A s _ _ false), (.tuple_none e hu : RcAt A s _ _ false)⟩
    | bl b =>
      exact ⟨(.tuple_bool b e hu : EqAt A s _ _ false), (.tuple_bool b e hu : RcAt A s _ _ false)⟩
    | int b t2 =>
      exact ⟨(.tuple_int b t2 e hu : EqAt A s _ _ false), (.tuple_int b t2 e hu : RcAt A s _ _ false)⟩
    | str b t2 =>
      exact ⟨(.tuple_str b t2 e hu : EqAt A s _ _ false), (.tuple_str b t2 e hu : RcAt A s _ _ false)⟩
    | @tup b zs ys f rz =>
      simp only [dep] at h0; omega
    | @lst b zs ys f rz =>
      exact ⟨(.tuple_list e f hu : EqAt A s _ _ false), (.tuple_list e f hu : RcAt A s _ _ false)⟩
  | @lst a us xs e ru =>
    cases sz with
    | non =>
      exact ⟨(.list_none e hu : EqAt A s _ _ false), (.list_none e hu : RcAt A s _ _ false)⟩
    | bl b =>
      exact ⟨(.list_bool b e hu : EqAt A s _ _ false), (.list_bool b e hu : RcAt A s _ _ false)⟩
    | int b t2 =>
      exact ⟨(.list_int b t2 e hu : EqAt A s _ _ false), (.list_int b t2 e hu : RcAt A s _ _ false)⟩
    | str b t2 =>
      exact ⟨(.list_str b t2 e hu : EqAt A s _ _ false), (.list_str b t2 e hu : RcAt A s _ _ false)⟩
    | @tup b zs ys f rz =>
      exact ⟨(.list_tuple e f hu : EqAt A s _ _ false), (.list_tuple e f hu : RcAt A s _ _ false)⟩
    | @lst b zs ys f rz =>
      simp only [dep] at h0; omega
theorem flatNe {s : Shared} {x y : D} {u z : Value} {A : Around} (h0 : min (dep x) (dep y) = 0) (hu : A.units < cLine) (su : Sit s.heap u x) (sz : Sit s.heap z y) : RcNeAt A s u z (!eqD x y) := by
  cases su with
  | non =>
    cases sz with
    | non =>
      exact (.none_none : RcNeAt A s _ _ (!true))
    | bl b =>
      exact (.none_bool b : RcNeAt A s _ _ (!false))
    | int b t2 =>
      exact (.none_int b t2 : RcNeAt A s _ _ (!false))
    | str b t2 =>
      exact (.none_str b t2 : RcNeAt A s _ _ (!false))
    | @tup b zs ys f rz =>
      exact (.none_tuple f hu : RcNeAt A s _ _ (!false))
    | @lst b zs ys f rz =>
      exact (.none_list f hu : RcNeAt A s _ _ (!false))
  | bl a =>
    cases sz with
    | non =>
      exact (.bool_none a : RcNeAt A s _ _ (!false))
    | bl b =>
      exact (.bool_bool a b : RcNeAt A s _ _ (!(a == b)))
    | int b t2 =>
      exact (.bool_int a b t2 : RcNeAt A s _ _ (!((if a then 1 else 0) == b)))
    | str b t2 =>
      exact (.bool_str a b t2 : RcNeAt A s _ _ (!false))
    | @tup b zs ys f rz =>
      exact (.bool_tuple a f hu : RcNeAt A s _ _ (!false))
    | @lst b zs ys f rz =>
      exact (.bool_list a f hu : RcNeAt A s _ _ (!false))
  | int a t =>
    cases sz with
    | non =>
      exact (.int_none a t : RcNeAt A s _ _ (!false))
    | bl b =>
      exact (.int_bool a t b : RcNeAt A s _ _ (!(a == (if b then 1 else 0))))
    | int b t2 =>
      exact (.int_int a t b t2 : RcNeAt A s _ _ (!(a == b)))
    | str b t2 =>
      exact (.int_str a t b t2 : RcNeAt A s _ _ (!false))
    | @tup b zs ys f rz =>
      exact (.int_tuple a t f hu : RcNeAt A s _ _ (!false))
    | @lst b zs ys f rz =>
      exact (.int_list a t f hu : RcNeAt A s _ _ (!false))
  | str a t =>
    cases sz with
    | non =>
      exact (.str_none a t : RcNeAt A s _ _ (!false))
    | bl b =>
      exact (.str_bool a t b : RcNeAt A s _ _ (!false))
    | int b t2 =>
      exact (.str_int a t b t2 : RcNeAt A s _ _ (!false))
    | str b t2 =>
      exact (.str_str a t b t2 : RcNeAt A s _ _ (!(a == b)))
    | @tup b zs ys f rz =>
      exact (.str_tuple a t f hu : RcNeAt A s _ _ (!false))
    | @lst b zs ys f rz =>
      exact (.str_list a t f hu : RcNeAt A s _ _ (!false))
  | @tup a us xs e ru =>
    cases sz with
    | non =>
      exact (.tuple_none e hu : RcNeAt A s _ _ (!false))
    | bl b =>
      exact (.tuple_bool b e hu : RcNeAt A s _ _ (!false))
    | int b t2 =>
      exact (.tuple_int b t2 e hu : RcNeAt A s _ _ (!false))
    | str b t2 =>
      exact (.tuple_str b t2 e hu : RcNeAt A s _ _ (!false))
    | @tup b zs ys f rz =>
      simp only [dep] at h0; omega
    | @lst b zs ys f rz =>
      exact (.tuple_list e f hu : RcNeAt A s _ _ true)
  | @lst a us xs e ru =>
    cases sz with
    | non =>
      exact (.list_none e hu : RcNeAt A s _ _ (!false))
    | bl b =>
      exact (.list_bool b e hu : RcNeAt A s _ _ (!false))
    | int b t2 =>
      exact (.list_int b t2 e hu : RcNeAt A s _ _ (!false))
    | str b t2 =>
      exact (.list_str b t2 e hu : RcNeAt A s _ _ (!false))
    | @tup b zs ys f rz =>
      exact (.list_tuple e f hu : RcNeAt A s _ _ true)
    | @lst b zs ys f rz =>
      simp only [dep] at h0; omega
theorem eqAt_both {s : Shared} : ∀ (n : Nat) (x y : D) (u z : Value) (A : Around), min (dep x) (dep y) ≤ n → A.units + n < cLine → Sit s.heap u x → Sit s.heap z y → EqAt A s u z (eqD x y) ∧ RcAt A s u z (eqD x y) := by
  intro n
  induction n with
  | zero =>
    intro x y u z A hm hu su sz
    exact flatAt (by first | assumption | exact Nat.le_of_lt ‹_› | omega) (by first | assumption | exact Nat.le_of_lt ‹_› | omega) su sz
  | succ n ih =>
    intro x y u z A hm hu su sz
    by_cases h0 : min (dep x) (dep y) = 0
    · exact flatAt h0 (by first | assumption | exact Nat.le_of_lt ‹_› | omega) su sz
    · have hu' : A.units < cLine := by omega
      have hu1 : A.in1.units + n < cLine := by rw [units_in1]; omega
      cases su with
      | @tup a us xs e ru =>
        cases sz with
        | @tup b zs ys f rz =>
          have dd : min (dep (.tup xs)) (dep (.tup ys)) = min (deps xs) (deps ys) + 1 := by simp only [dep]; omega
          have rc : RcAt A s (.ref a) (.ref b) (eqD (.tup xs) (.tup ys)) := by
            have q := RcAt.tuples (e := fun j => eqD (xs.getD j .non) (ys.getD j .non)) e f hu' (items_at ru rz fun x' y' u' z' hm' su' sz' => (ih x' y' u' z' A.in1 (by first | assumption | exact Nat.le_of_lt ‹_› | omega) hu1 su' sz').1)
            rw [eqD, eqDs_all]
            simpa [ru.length, rz.length] using q
          refine ⟨?_, rc⟩
          by_cases hab : a = b
          · subst hab
            have q := tup_inj e f
            subst q
            have q2 := Sits.det ru rz
            subst q2
            rw [eqD_refl]
            exact .same _
          · exact .of_refs hab rc
        | @lst b zs ys f rz =>
          simp only [eqD]
          exact ⟨.tuple_list e f hu', .tuple_list e f hu'⟩
        | _ => simp only [dep] at h0; omega
      | @lst a us xs e ru =>
        cases sz with
        | @lst b zs ys f rz =>
          have dd : min (dep (.lst xs)) (dep (.lst ys)) = min (deps xs) (deps ys) + 1 := by simp only [dep]; omega
          have rc : RcAt A s (.ref a) (.ref b) (eqD (.lst xs) (.lst ys)) := by
            by_cases hl : xs.length = ys.length
            · have hsz : us.toArray.size = zs.toArray.size := by simp [ru.length, rz.length, hl]
              have q := RcAt.lists (e := fun j => eqD (xs.getD j .non) (ys.getD j .non)) e f hsz hu' (items_at ru rz fun x' y' u' z' hm' su' sz' => (ih x' y' u' z' A.in1 (by first | assumption | exact Nat.le_of_lt ‹_› | omega) hu1 su' sz').1)
              rw [eqD, eqDs_all]
              have m : min xs.length ys.length = us.toArray.size := by simp [ru.length, hl]
              rw [m, hl, beq_self_eq_true, Bool.and_true]
              exact q
            · have hsz : (us.toArray.size != zs.toArray.size) = true := by simp [ru.length, rz.length, hl]
              have q := RcAt.lists_lengths (A := A) e f hsz hu'
              rw [eqD, eqDs_all]
              have m : (xs.length == ys.length) = false := by simp [hl]
              rw [m, Bool.and_false]
              exact q
          refine ⟨?_, rc⟩
          by_cases hab : a = b
          · subst hab
            have q := lst_inj e f
            subst q
            have q2 := Sits.det ru rz
            subst q2
            rw [eqD_refl]
            exact .same _
          · exact .of_refs hab rc
        | @tup b zs ys f rz =>
          simp only [eqD]
          exact ⟨.list_tuple e f hu', .list_tuple e f hu'⟩
        | _ => simp only [dep] at h0; omega
      | _ => simp only [dep] at h0; omega
theorem neAt {s : Shared} (n : Nat) (x y : D) (u z : Value) (A : Around) (hm : min (dep x) (dep y) ≤ n) (hu : A.units + n < cLine) (su : Sit s.heap u x) (sz : Sit s.heap z y) : RcNeAt A s u z (!eqD x y) := by
  by_cases h0 : min (dep x) (dep y) = 0
  · exact flatNe h0 (by first | assumption | exact Nat.le_of_lt ‹_› | omega) su sz
  · cases n with
    | zero => omega
    | succ n =>
      have hu' : A.units < cLine := by omega
      have hu1 : A.in1.units + n < cLine := by rw [units_in1]; omega
      cases su with
      | @tup a us xs e ru =>
        cases sz with
        | @tup b zs ys f rz =>
          have dd : min (dep (.tup xs)) (dep (.tup ys)) = min (deps xs) (deps ys) + 1 := by simp only [dep]; omega
          have q := RcNeAt.tuples (e := fun j => eqD (xs.getD j .non) (ys.getD j .non)) e f hu' (items_at ru rz fun x' y' u' z' hm' su' sz' => (eqAt_both n x' y' u' z' A.in1 (by first | assumption | exact Nat.le_of_lt ‹_› | omega) hu1 su' sz').1)
          rw [eqD, eqDs_all]
          simpa [ru.length, rz.length] using q
        | @lst b zs ys f rz => exact (.tuple_list e f hu' : RcNeAt A s _ _ true)
        | _ => simp only [dep] at h0; omega
      | @lst a us xs e ru =>
        cases sz with
        | @lst b zs ys f rz =>
          have dd : min (dep (.lst xs)) (dep (.lst ys)) = min (deps xs) (deps ys) + 1 := by simp only [dep]; omega
          by_cases hl : xs.length = ys.length
          · have hsz : us.toArray.size = zs.toArray.size := by simp [ru.length, rz.length, hl]
            have q := RcNeAt.lists (e := fun j => eqD (xs.getD j .non) (ys.getD j .non)) e f hsz hu' (items_at ru rz fun x' y' u' z' hm' su' sz' => (eqAt_both n x' y' u' z' A.in1 (by first | assumption | exact Nat.le_of_lt ‹_› | omega) hu1 su' sz').1)
            rw [eqD, eqDs_all]
            have m : min xs.length ys.length = us.toArray.size := by simp [ru.length, hl]
            rw [m, hl, beq_self_eq_true, Bool.and_true]
            exact q
          · have hsz : (us.toArray.size != zs.toArray.size) = true := by simp [ru.length, rz.length, hl]
            have q := RcNeAt.lists_lengths (A := A) e f hsz hu'
            rw [eqD, eqDs_all]
            have m : (xs.length == ys.length) = false := by simp [hl]
            rw [m, Bool.and_false]
            exact q
        | @tup b zs ys f rz => exact (.list_tuple e f hu' : RcNeAt A s _ _ true)
        | _ => simp only [dep] at h0; omega
      | _ => simp only [dep] at h0; omega

noncomputable def eqOp (x y : D) : Option D := if min (dep x) (dep y) ≤ 60 then some (.bl (eqD x y)) else none
noncomputable def neOp (x y : D) : Option D := if min (dep x) (dep y) ≤ 60 then some (.bl (!eqD x y)) else none
noncomputable def rEqD (K : PySem.W.Frag) : R2 := fun v u H Q => ∃ G x y, Same G H ∧ RepP K G H v x ∧ RepP K G H u y ∧ min (dep x) (dep y) ≤ 60 ∧ Q (.bl (eqD x y)) H
noncomputable def rNeD (K : PySem.W.Frag) : R2 := fun v u H Q => ∃ G x y, Same G H ∧ RepP K G H v x ∧ RepP K G H u y ∧ min (dep x) (dep y) ≤ 60 ∧ Q (.bl (!eqD x y)) H
section
variable {X : Cx}
theorem op_eqD {k : Nat} (hr : Room k X.A) : OpR X (compareOp .Eq) (rEqD X.K) := by
  intro pins s σ H x y v u Q I rx ry h
  obtain ⟨G, d, e, gh, p, q, hm, k⟩ := h
  exact (eqAt_both 60 d e v u X.A hm (Nat.lt_of_le_of_lt (Nat.add_le_add_left (by decide) _) hr.units) (sit_ofP I gh p rx) (sit_ofP I gh q ry)).2 X.prog X.w X.xe _ ⟨.bl (eqD d e), H, I, rfl, k⟩
theorem op_neD {k : Nat} (hr : Room k X.A) : OpR X (compareOp .NotEq) (rNeD X.K) := by
  intro pins s σ H x y v u Q I rx ry h
  obtain ⟨G, d, e, gh, p, q, hm, k⟩ := h
  exact (neAt 60 d e v u X.A hm (Nat.lt_of_le_of_lt (Nat.add_le_add_left (by decide) _) hr.units) (sit_ofP I gh p rx) (sit_ofP I gh q ry)) X.prog X.w X.xe _ ⟨.bl (!eqD d e), H, I, rfl, k⟩
end
theorem d_eq {K : PySem.W.Frag} : OpD K (rEqD K) eqOp := by
  intro v u x y G H Q d s rv ru e k
  unfold eqOp at e
  split at e
  · rename_i hm
    cases e
    exact ⟨G, x, y, s, rv, ru, hm, k _ H G (Ext.refl s) (.bl _)⟩
  · cases e
theorem d_ne {K : PySem.W.Frag} : OpD K (rNeD K) neOp := by
  intro v u x y G H Q d s rv ru e k
  unfold neOp at e
  split at e
  · rename_i hm
    cases e
    exact ⟨G, x, y, s, rv, ru, hm, k _ H G (Ext.refl s) (.bl _)⟩
  · cases e
end PD

set_option Elab.async false
set_option linter.all false
set_option maxRecDepth 100000
namespace PD
open PySem PySem.Spec L2

noncomputable def closL (env : Env) : List (Str × NameKind) → List (Str × Addr) → List (Str × Addr)
  | [], cs => cs
  | (n, .free) :: r, cs => closL env r ((n, (env.cells.lookup n).getD 0) :: cs)
  | _ :: r, cs => closL env r cs
theorem closL_forIn {env : Env} : ∀ (l : List (Str × NameKind)) (cs : List (Str × Addr)), (∀ y ∈ l, y.2 = .free → ∃ c, env.cells.lookup y.1 = some c) →
    (forIn l cs fun (x : Str × NameKind) (r : List (Str × Addr)) => (if (x.2 == NameKind.free) = true then do let a ← cellOf env x.1; pure (ForInStep.yield ((x.1, a) :: r)) else pure (ForInStep.yield r) : Sem _)) = pure (closL env l cs)
  | [], cs, _ => rfl
  | (n, k) :: l, cs, h => by
    rw [List.forIn_cons]
    have ih := fun cs => closL_forIn l cs fun y hy => h y (List.mem_cons_of_mem _ hy)
    cases k with
    | free =>
      obtain ⟨c, e⟩ := h (n, .free) List.mem_cons_self rfl
      have q : cellOf env n = pure c := by unfold cellOf; rw [e]
      simp only [beq_self_eq_true, if_true, q, pure_bind]
      rw [ih]
      simp only [closL, e, Option.getD_some]
    | _ =>
      simp only [show (NameKind.local == NameKind.free) = false from rfl, show (NameKind.cell == NameKind.free) = false from rfl, show (NameKind.globalExplicit == NameKind.free) = false from rfl, show (NameKind.globalImplicit == NameKind.free) = false from rfl, Bool.false_eq_true, if_false, pure_bind]
      rw [ih]
      simp only [closL]
theorem closureFor_eq {env : Env} {scope : Scope} (h : ∀ y ∈ scope.names, y.2 = .free → ∃ c, env.cells.lookup y.1 = some c) : closureFor scope env = pure (closL env scope.names []) := by
  have q := closL_forIn (env := env) scope.names [] h
  have e : closureFor scope env = ((forIn scope.names ([] : List (Str × Addr)) fun (x : Str × NameKind) (r : List (Str × Addr)) => (if (x.2 == NameKind.free) = true then do let a ← cellOf env x.1; pure (ForInStep.yield ((x.1, a) :: r)) else pure (ForInStep.yield r) : Sem _)) >>= fun r => pure r) := by
    unfold closureFor
    rfl
  rw [e, q]
  rfl
theorem closL_look {env : Env} : ∀ (l : List (Str × NameKind)) (cs : List (Str × Addr)), (∀ y ∈ l, y.2 = .free → ∃ c, env.cells.lookup y.1 = some c) → (∀ y c, cs.lookup y = some c → env.cells.lookup y = some c) →
    ∀ y c, (closL env l cs).lookup y = some c → env.cells.lookup y = some c
  | [], cs, _, h2, y, c, e => h2 y c e
  | (n, k) :: l, cs, h, h2, y, c, e => by
    have h' : ∀ y ∈ l, y.2 = .free → ∃ c, env.cells.lookup y.1 = some c := fun y hy => h y (List.mem_cons_of_mem _ hy)
    cases k with
    | free =>
      obtain ⟨c0, e0⟩ := h (n, .free) List.mem_cons_self rfl
      refine closL_look l _ h' (fun z d q => ?_) y c e
      rw [List.lookup_cons] at q
      split at q
      · rename_i hz
        have hz' : z = n := by simpa using hz
        subst hz'
        rw [e0] at q ⊢
        exact q
      · exact h2 z d q
    | _ => exact closL_look l cs h' h2 y c e
theorem closL_acc {env : Env} : ∀ (l : List (Str × NameKind)) (cs : List (Str × Addr)) (y : Str), (cs.lookup y).isSome = true → ((closL env l cs).lookup y).isSome = true
  | [], cs, y, h => h
  | (n, k) :: l, cs, y, h => by
    cases k with
    | free =>
      refine closL_acc l _ y ?_
      rw [List.lookup_cons]
      split
      · rfl
      · exact h
    | _ => exact closL_acc l cs y h
theorem closL_has {env : Env} : ∀ (l : List (Str × NameKind)) (cs : List (Str × Addr)) (y : Str), (y, NameKind.free) ∈ l → ((closL env l cs).lookup y).isSome = true
  | (n, k) :: l, cs, y, h => by
    rcases List.mem_cons.mp h with h0 | h0
    · injection h0 with e1 e2
      subst e1 e2
      refine closL_acc l _ _ ?_
      simp [List.lookup_cons]
    · cases k with
      | free => exact closL_has l _ y h0
      | _ => exact closL_has l cs y h0

theorem relabel_look {scope : Scope} {env : Env} {x : Str} {k : NameKind} (h : (relabel scope env).names.lookup x = some k) :
    (k = .local ∧ scope.names.lookup x = some .local) ∨ (k = .cell ∧ (scope.names.lookup x = some .free ∨ scope.names.lookup x = some .cell)) ∨ (k = .free ∧ scope.names.lookup x = some .free) ∨ (k ≠ .local ∧ k ≠ .cell ∧ k ≠ .free) := by
  unfold relabel at h
  dsimp only at h
  generalize hn : scope.names = names at h
  clear hn
  induction names with
  | nil => cases h
  | cons y r ih =>
    obtain ⟨n, q⟩ := y
    rw [List.map_cons] at h
    by_cases hx : x = n
    · subst hx
      dsimp only at h
      split at h
      · rename_i hcond
        simp only [List.lookup_cons, beq_self_eq_true] at h ⊢
        cases h
        have : q = .free := by
          have := hcond
          simp only [Bool.and_eq_true] at this
          simpa using this.1.1
        exact .inr (.inl ⟨rfl, .inl (by rw [this])⟩)
      · simp only [List.lookup_cons, beq_self_eq_true] at h ⊢
        cases h
        cases k with
        | «local» => exact .inl ⟨rfl, rfl⟩
        | cell => exact .inr (.inl ⟨rfl, .inr rfl⟩)
        | free => exact .inr (.inr (.inl ⟨rfl, rfl⟩))
        | _ => exact .inr (.inr (.inr ⟨by simp, by simp, by simp⟩))
    · have hx' : (x == n) = false := by simpa using hx
      dsimp only at h
      have e : ((n, q) :: r).lookup x = r.lookup x := by rw [List.lookup_cons, hx']
      rw [e]
      split at h <;> (rw [List.lookup_cons] at h; simp only [hx'] at h; exact ih h)

theorem cells_cases : ∀ (names : List (Str × NameKind)) (lo : Nat) (acc : List (Str × Addr)) {x : Str} {c : Addr}, (cellsFrom lo names acc).lookup x = some c → acc.lookup x = some c ∨ (lo ≤ c ∧ (x, NameKind.cell) ∈ names)
  | [], lo, acc, x, c, h => .inl h
  | (n, k) :: r, lo, acc, x, c, h => by
    unfold cellsFrom at h
    split at h
    · rename_i hk
      rcases cells_cases r (lo + 1) _ h with h | h
      · rw [List.lookup_cons] at h
        split at h
        · rename_i hz
          cases h
          rw [beq_iff_eq.mp hz]
          exact .inr ⟨Nat.le_refl _, by rw [show k = NameKind.cell from beq_iff_eq.mp hk]; exact List.mem_cons_self⟩
        · exact .inl h
      · exact .inr ⟨by omega, List.mem_cons_of_mem _ h.2⟩
    · rcases cells_cases r lo acc h with h | h
      · exact .inl h
      · exact .inr ⟨h.1, List.mem_cons_of_mem _ h.2⟩
theorem cells_inj : ∀ (names : List (Str × NameKind)) (lo : Nat) (acc : List (Str × Addr)), (∀ x y c, acc.lookup x = some c → acc.lookup y = some c → x = y) → (∀ x c, acc.lookup x = some c → c < lo) →
    ∀ x y c, (cellsFrom lo names acc).lookup x = some c → (cellsFrom lo names acc).lookup y = some c → x = y
  | [], lo, acc, h1, _ => h1
  | (n, k) :: r, lo, acc, h1, h2 => by
    unfold cellsFrom
    split
    · refine cells_inj r (lo + 1) _ (fun x y c e1 e2 => ?_) (fun x c e => ?_)
      · rw [List.lookup_cons] at e1 e2
        split at e1
        · rename_i q1
          cases e1
          split at e2
          · rename_i q2
            rw [beq_iff_eq.mp q1, beq_iff_eq.mp q2]
          · exact absurd (h2 _ _ e2) (Nat.lt_irrefl _)
        · split at e2
          · cases e2
            exact absurd (h2 _ _ e1) (Nat.lt_irrefl _)
          · exact h1 _ _ _ e1 e2
      · rw [List.lookup_cons] at e
        split at e
        · cases e; exact Nat.lt_succ_self _
        · exact Nat.lt_succ_of_lt (h2 _ _ e)
    · exact cells_inj r lo acc h1 h2
theorem cells_empty : ∀ (names : List (Str × NameKind)) (h : Heap) (acc : List (Str × Addr)) {x : Str} {c : Addr}, (cellsFrom h.objs.size names acc).lookup x = some c → acc.lookup x = some c ∨ (pushCells h names).IsCell c none
  | [], h, acc, x, c, e => .inl e
  | (n, k) :: r, h, acc, x, c, e => by
    unfold cellsFrom at e
    unfold pushCells
    split at e
    · rename_i hk
      rw [if_pos hk]
      have e' : (cellsFrom (h.push { cls := .type "cell", data := .cell none }).objs.size r ((n, h.objs.size) :: acc)).lookup x = some c := by rw [Heap.size_push]; exact e
      rcases cells_empty r _ _ e' with z | z
      · rw [List.lookup_cons] at z
        split at z
        · cases z
          exact .inr ⟨_, pushCells_keeps _ _ _ _ (Heap.get?_push_size _ rfl), rfl⟩
        · exact .inl z
      · exact .inr z
    · rename_i hk
      rw [if_neg hk]
      exact cells_empty r h acc e
theorem wp_blockEnv {M : Model} {A : Around} {E : Value → Shared → Prop} {s : Shared} {scope : Scope} {globals : Addr} {cl : List (Str × Addr)} {qual : Str} {around : Env} {Q : Env → Shared → Prop}
    (q : ∀ h', h'.Ns s.heap.objs.size (fun _ => none) → (∀ b o, s.heap.get? b = some o → h'.get? b = some o) → (∀ x c, (cellsFrom (s.heap.objs.size + 1) scope.names cl).lookup x = some c → cl.lookup x = some c ∨ h'.IsCell c none) →
      Q { scope, locals := s.heap.objs.size, globals, cells := cellsFrom (s.heap.objs.size + 1) scope.names cl, qual, func := none, code := around.code, frame := around.frame, builtins := around.builtins } { s with heap := h' }) :
    wpAny M A (newFunctionEnv scope globals cl [] qual none .none (some around)) Q E s := by
  simp only [newFunctionEnv, Option.isSome_some, if_true]
  refine wpAny_bind (wpAny_alloc (wpAny_bind (wpAny_layCells _ (fun name kind cells => by cases hkc : kind == NameKind.cell <;> simp [hkc]) _ _ _ _ ?_)))
  have sz : (s.heap.push { cls := .type "dict", data := .dict #[] }).objs.size = s.heap.objs.size + 1 := Heap.size_push ..
  rw [show ({ s with heap := s.heap.push { cls := .type "dict", data := .dict #[] } } : Shared).heap.objs.size = s.heap.objs.size + 1 from sz]
  rw [List.forIn_nil]
  refine wpAny_bind (wpAny_pure (wpAny_pure (q _ ((Heap.Ns.new s.heap (.type "dict")).keeps (pushCells_keeps _ _)) (fun b o e => pushCells_keeps _ _ b o (Heap.get?_push_of_some _ e)) fun x c e => ?_)))
  exact cells_empty scope.names _ cl (by rw [sz]; exact e)

noncomputable def cxComp (X : Cx) (N' ns : List Str) (scope : Scope) (ex : List Addr) (s₀ : Shared) (H₀ : Hp) : Cx :=
  { X with N := ns ++ N', s₀ := s₀, H₀ := H₀, env := compEnvC scope (cellsFrom (s₀.heap.objs.size + 1) scope.names (closL X.env scope.names [])) s₀.heap.objs.size X.env, outer := X.stack, stack := X.stack, ex := ex, fn := fun x => scope.names.lookup x == some .cell, pn := [], xe := fun _ _ => False }

set_option genSizeOf false in
set_option genInjectivity false in
structure CompScope (X : Cx) (N' ns : List Str) (scope : Scope) : Prop where
  kind : scope.kind = .function
  names : ∀ y ∈ scope.names, y.2 = .local → scope.names.lookup y.1 = some .local
  fr : ∀ y ∈ scope.names, y.2 = .free → X.env.kindOf y.1 = some .cell ∨ X.env.kindOf y.1 = some .free
  dis : ∀ x ∈ N', scope.names.lookup x ≠ some .local ∧ scope.names.lookup x ≠ some .cell
  own : ∀ x, scope.names.lookup x = some .cell → (x, NameKind.free) ∉ scope.names
  once : ∀ x, (x, NameKind.cell) ∈ scope.names → scope.names.lookup x = some .cell
  len : N'.length = X.N.length
  sub : ∀ (i : Nat) (x : Str), N'[i]? = some x → scope.names.lookup x = some .free → X.N[i]? = some x

section
variable {X : Cx} {pins : List (Addr × Obj)} {σ : L2.St} {H : Hp} {s : Shared} {N' ns : List Str} {scope : Scope}
theorem CompScope.clos (S : CompScope X N' ns scope) (ok : X.Ok) : ∀ y ∈ scope.names, y.2 = .free → ∃ c, X.env.cells.lookup y.1 = some c := fun y hy hf => ok.has y.1 (S.fr y hy hf)
theorem closL_mem {env : Env} : ∀ (l : List (Str × NameKind)) (cs : List (Str × Addr)) {y : Str} {c : Addr}, (closL env l cs).lookup y = some c → cs.lookup y = some c ∨ (y, NameKind.free) ∈ l
  | [], cs, y, c, e => .inl e
  | (n, k) :: l, cs, y, c, e => by
    cases k with
    | free =>
      rcases closL_mem l _ e with e | e
      · rw [List.lookup_cons] at e
        split at e
        · rename_i hz
          rw [beq_iff_eq.mp hz]
          exact .inr List.mem_cons_self
        · exact .inl e
      · exact .inr (List.mem_cons_of_mem _ e)
    | _ =>
      rcases closL_mem l cs e with e | e
      · exact .inl e
      · exact .inr (List.mem_cons_of_mem _ e)
theorem inv_comp (I : Inv X pins σ H s) (S : CompScope X N' ns scope) {fp : List Addr} (hfp : ∀ b ∈ fp, FpOk X pins H b ∧ b < s.heap.objs.size) {h' : Heap} {m : Str → Option Value} {tk : Nat} (hn : h'.Ns s.heap.objs.size m)
    (hk : ∀ b o, s.heap.get? b = some o → h'.get? b = some o) (hcl : ∀ x c, (cellsFrom (s.heap.objs.size + 1) scope.names (closL X.env scope.names [])).lookup x = some c → (closL X.env scope.names []).lookup x = some c ∨ h'.IsCell c none) :
    Inv (cxComp X N' ns scope fp s H) [] (List.replicate ns.length none ++ σ) H { s with heap := h', toks := tk } := by
  have clo := S.clos I.ok
  have look0 : ∀ y c, (closL X.env scope.names []).lookup y = some c → X.env.cells.lookup y = some c := closL_look scope.names [] clo (fun y c e => by cases e)
  have clt : ∀ y c, X.env.cells.lookup y = some c → c < s.heap.objs.size := fun y c e => by
    obtain ⟨v, o, ho, _⟩ := I.cell y c e
    exact Heap.lt_size ho
  have look : ∀ y c, (cellsFrom (s.heap.objs.size + 1) scope.names (closL X.env scope.names [])).lookup y = some c → X.env.cells.lookup y = some c ∨ s.heap.objs.size + 1 ≤ c := fun y c e => by
    rcases cells_cases _ _ _ e with z | z
    · exact .inl (look0 y c z)
    · exact .inr z.1
  refine ⟨⟨I.ok.mod, ?_, I.ok.glob, I.ok.blt, Nat.le_refl _, fun x y c h1 h2 => ?_, fun x hx => ?_, fun x c h e => ?_, I.ok.hd, I.ok.frames, .inl rfl, fun b hb => ⟨?_, fun x c e => ?_⟩, I.bs, Nat.le_trans I.ok.bsz I.sz, fun b o e hb => ?_, fun b hb hf => ?_, I.stack, I.stkFree⟩,
    rfl, I.bare, Un.kept hk, ⟨m, hn, fun i x v e1 e2 e3 => ?_⟩, fun x c e => ?_, I.hok.fresh (Nat.le_refl _), fun x c e => ?_, fun p hp => absurd (show p ∈ ([] : List (Addr × Obj)) from hp) (by simp), I.hok.kept hk, ?_⟩
  · show (relabel scope X.env).kind = .function
    exact S.kind
  · exact cells_inj scope.names _ _ (fun x y c e1 e2 => I.ok.inj x y c (look0 x c e1) (look0 y c e2)) (fun x c e => Nat.lt_succ_of_lt (clt x c (look0 x c e))) x y c h1 h2
  · -- cells are there
    have hx : (relabel scope X.env).names.lookup x = some .cell ∨ (relabel scope X.env).names.lookup x = some .free := hx
    have hf : scope.names.lookup x = some .free ∨ scope.names.lookup x = some .cell := by
      rcases hx with hx | hx
      · rcases relabel_look hx with ⟨z, _⟩ | ⟨_, z⟩ | ⟨z, _⟩ | ⟨_, z, _⟩
        · cases z
        · exact z
        · cases z
        · exact absurd rfl z
      · rcases relabel_look hx with ⟨z, _⟩ | ⟨z, _⟩ | ⟨_, z⟩ | ⟨_, _, z⟩
        · cases z
        · cases z
        · exact .inl z
        · exact absurd rfl z
    refine Option.isSome_iff_exists.mp (PySem.W.cellsFrom_some scope.names _ _ ?_)
    rcases hf with hf | hf
    · exact .inr (closL_has scope.names [] x (PySem.mem_of_lookup hf))
    · exact .inl hf
  · -- those of its own are new
    have hx : scope.names.lookup x = some .cell := by simpa [cxComp] using h
    rcases cells_cases _ _ _ (show (cellsFrom (s.heap.objs.size + 1) scope.names (closL X.env scope.names [])).lookup x = some c from e) with z | z
    · rcases closL_mem _ _ z with z | z
      · cases z
      · exact absurd z (S.own x hx)
    · exact Nat.le_of_succ_le z.1
  · show b ≠ s.heap.objs.size
    exact Nat.ne_of_lt (hfp b hb).2
  · rcases look x c e with z | z
    · exact (hfp b hb).1.2.2.2.2.1 x c z
    · have hb2 := (hfp b hb).2
      exact fun q => by rw [← q] at hb2; exact absurd z (Nat.not_le_of_lt (Nat.lt_succ_of_lt hb2))
  · -- no object of the base is an iterator's
    obtain ⟨_, _, _, hx, _⟩ := (hfp b hb).1
    rcases hx with hx | hx
    · exact I.ok.noex b o e hx
    · exact absurd (Nat.lt_of_lt_of_le (Heap.lt_size e) (Nat.le_trans I.ok.bsz hx)) (Nat.lt_irrefl _)
  · -- nor a frame
    obtain ⟨_, h1, h2, _⟩ := (hfp b hb).1
    rcases List.mem_cons.mp (I.stkSub b hf) with z | z
    · exact h1 z
    · exact h2 z
  · -- names
    have e1 : (ns ++ N')[i]? = some x := e1
    have e3 : Vis (relabel scope X.env) x := e3
    by_cases hi : i < ns.length
    · rw [List.getElem?_append_left (by simpa using hi), List.getElem?_replicate] at e2
      split at e2 <;> cases e2
    · rw [List.getElem?_append_right (by first | assumption | exact Nat.le_of_lt ‹_› | omega)] at e1
      rw [List.getElem?_append_right (by simp; omega)] at e2
      simp only [List.length_replicate] at e2
      have hxN : x ∈ N' := List.mem_of_getElem? e1
      have hf : scope.names.lookup x = some .free := by
        rcases e3 with e3 | e3 | e3
        · rcases relabel_look e3 with ⟨_, z⟩ | ⟨z, _⟩ | ⟨z, _⟩ | ⟨z, _⟩
          · exact absurd z (S.dis x hxN).1
          · cases z
          · cases z
          · exact absurd rfl z
        · rcases relabel_look e3 with ⟨z, _⟩ | ⟨_, z | z⟩ | ⟨z, _⟩ | ⟨_, z, _⟩
          · cases z
          · exact z
          · exact absurd z (S.dis x hxN).2
          · cases z
          · exact absurd rfl z
        · rcases relabel_look e3 with ⟨z, _⟩ | ⟨z, _⟩ | ⟨_, z⟩ | ⟨_, _, z⟩
          · cases z
          · cases z
          · exact z
          · exact absurd rfl z
      have hk2 := S.fr _ (PySem.mem_of_lookup hf) rfl
      have hvis : Vis X.env.scope x := by
        rcases hk2 with z | z
        · exact .inr (.inl z)
        · exact .inr (.inr z)
      obtain ⟨m0, _, hl⟩ := I.loc
      obtain ⟨u, ru, lk⟩ := hl _ x v (S.sub _ _ e1 hf) e2 hvis
      refine ⟨u, ru, .inr ⟨?_, ?_⟩⟩
      · show (relabel scope X.env).names.lookup x = some .cell ∨ (relabel scope X.env).names.lookup x = some .free
        rcases e3 with e3 | e3 | e3
        · rcases relabel_look e3 with ⟨_, z⟩ | ⟨z, _⟩ | ⟨z, _⟩ | ⟨z, _⟩
          · rw [hf] at z; cases z
          · cases z
          · cases z
          · exact absurd rfl z
        · exact .inl e3
        · exact .inr e3
      · obtain ⟨c, hc⟩ := Option.isSome_iff_exists.mp (PySem.W.cellsFrom_some (x := x) scope.names (s.heap.objs.size + 1) (closL X.env scope.names []) (.inr (closL_has (env := X.env) scope.names [] x (PySem.mem_of_lookup hf))))
        refine ⟨c, hc, ?_⟩
        have hc' : X.env.cells.lookup x = some c := by
          rcases cells_cases _ _ _ hc with z' | z'
          · exact look0 x c z'
          · exact absurd (PySem.mem_of_lookup hf) (S.own x (S.once x z'.2))
        rcases lk with ⟨z, _⟩ | ⟨_, c2, e, ⟨o, ho, hd⟩⟩
        · rcases hk2 with z' | z' <;> (rw [z] at z'; cases z')
        · rw [hc'] at e; cases e
          exact ⟨o, hk _ o ho, hd⟩
  · rcases hcl x c e with z | z
    · obtain ⟨v, o, ho, hd⟩ := I.cell x c (look0 x c z)
      exact ⟨v, o, hk _ o ho, hd⟩
    · exact ⟨none, z⟩
  · rcases look x c e with z | z
    · exact I.freeC x c z
    · exact I.hok.fresh (Nat.le_of_succ_le z)
  · show (List.replicate ns.length none ++ σ).length = (ns ++ N').length
    rw [List.length_append, List.length_append, List.length_replicate, I.len, S.len]
end
end PD

set_option Elab.async false
set_option linter.all false
set_option maxRecDepth 100000
namespace PD
open PySem PySem.Spec L2

section
variable {prog : Program} {w : World} {A : Around} {R : Result → Shared → Prop} {s : Shared}
theorem compLoop_gen {elt target iter : Expr} {ifs : List Expr} {scope : Scope} {pos : Pos} {it acc : Value} {env : Env} (I : Nat → Shared → Prop)
    (turn : ∀ n s, I n s → wpAny (model prog w) A (pyNext it) (fun r s₁ => match r with
      | none => R (.ok .next) s₁
      | some v => wpAny (model prog w) A (letOwnedTupleGo target it v) (fun _ s₁' => wpAny (model prog w) A (assign target env v) (fun _ s₂ =>
          wpAny (model prog w) A (forIn ifs true fun c r => if r = true then do let ok ← isTrue c env (eval c env); pure (ForInStep.yield ok) else pure (ForInStep.yield r)) (fun ok s₃ =>
            if ok = true then wpAny (model prog w) A (eval elt env) (fun x s₄ =>
              wpAny (model prog w) A (call (.builtin "list.append") [acc, x]) (fun _ s₅ => ∃ m, m < n ∧ I m s₅) (fun _ _ => False) s₄) (fun _ _ => False) s₃
            else ∃ m, m < n ∧ I m s₃) (fun _ _ => False) s₂) (fun _ _ => False) s₁') (fun _ _ => False) s₁) (fun _ _ => False) s)
    (n : Nat) (h : I n s) :
    codeAny (model prog w) A (.compLoop (.ListComp elt [⟨target, iter, ifs, 0⟩] scope pos) 0 it acc env) R s := by
  refine codeAny_loop rfl I (fun n s hI => ?_) n h
  show wpAny _ A ((compTurn (.ListComp elt [⟨target, iter, ifs, 0⟩] scope pos) 0 it acc env).onRaise (fun x => do noteFrame x env; theTreesLotGoes x)) _ _ s
  refine wpAny_noted ?_
  rw [compTurn_list]
  refine wpAny_bind (wpAny_standAt (wpAny_bind (wpAny_mono (turn n s hI) (fun r s₁ h₁ => ?_) fun _ _ h' => h'.elim)))
  cases r with
  | none => exact wpAny_pure h₁
  | some v =>
    refine wpAny_bind (wpAny_mono h₁ (fun _ s₁' h₁' => ?_) fun _ _ h' => h'.elim)
    refine wpAny_bind (wpAny_mono h₁' (fun _ s₂ h₂ => wpAny_bind (wpAny_mono h₂ (fun ok s₃ h₃ => ?_) fun _ _ h' => h'.elim)) fun _ _ h' => h'.elim)
    cases ok with
    | false => exact wpAny_pure ⟨rfl, h₃⟩
    | true =>
      exact wpAny_bind (wpAny_bind (wpAny_mono h₃ (fun x s₄ h₄ => wpAny_bind (wpAny_mono h₄ (fun _ s₅ h₅ => wpAny_pure (wpAny_pure ⟨rfl, h₅⟩)) fun _ _ h' => h'.elim)) fun _ _ h' => h'.elim))
end

noncomputable def PIf (X : Cx) (ifs : List Expr) (t : TT) : Prop :=
  ∀ (pins : List (Addr × Obj)) (s : Shared) (σ : L2.St) (H : Hp) (Q : Bool → Hp → Prop), Inv X pins σ H s → t σ H Q →
    wpAny (model X.prog X.w) X.A (forIn ifs true fun c r => if r = true then do let ok ← isTrue c X.env (eval c X.env); pure (ForInStep.yield ok) else pure (ForInStep.yield r)) (TP X pins σ Q) X.xe s
theorem pif_nil {X : Cx} : PIf X [] (fun _ H Q => Q true H) := fun pins s σ H Q I h => wpAny_tests_nil ⟨H, I, h⟩
theorem pif_one {X : Cx} {c : Expr} {t : TT} (h : PT X c t) : PIf X [c] t := fun pins s σ H Q I q => wpAny_tests_one (h pins s σ H Q I q)

noncomputable def tComp (n : Nat) (wi : TI) (g : TG) (tc : TT) (te : TE) : TE := fun σ H Q => wi σ H fun J H1 => ∀ D, H1 D = none → ∃ W : Nat → Nat → Hp → Prop, (∃ m, W 0 m (upd H1 D (.lst []))) ∧ ∀ i m H2, W i m H2 →
  (J.stop i H2 ∧ Q (.ref D) H2) ∨ (J.go i H2 ∧ ∃ N : Hp → Prop, (∀ H', N H' → ∃ m', m' < m ∧ W (i + 1) m' H') ∧ ∀ x H3, J.yld i H2 x H3 →
    g x (List.replicate n none ++ σ) H3 fun σ4 H4 => (σ4.length = n + σ.length ∧ ∀ j, n ≤ j → σ4[j]? = (List.replicate n none ++ σ)[j]?) ∧
      tc σ4 H4 fun b H5 => if b = true then te σ4 H5 fun y H6 => ∃ ys, H6 D = some (.lst ys) ∧ ys.length < sizeLine ∧ N (upd H6 D (.lst (ys ++ [y]))) else N H5)

section
variable {X : Cx} {tg iter elt : Expr} {ifs : List Expr} {scope : Scope} {pos : Pos} {N' ns : List Str} {wi : TI} {g : TG} {tc : TT} {te : TE}
theorem comp_block {pins : List (Addr × Obj)} {σ : L2.St} {Q : VK} {it : Addr} {fp : List Addr} {tn : Nat → Heap → Prop} {J : It} {H2 : Hp} {s2 : Shared} {E : Value → Shared → Prop} {RR : Value → Addr → Result → Shared → Prop}
    (hc : X.calm = true) (S : CompScope X N' ns scope)
    (hb : ∀ ex s₀ H₀, PG (cxComp X N' ns scope ex s₀ H₀) tg g ∧ PIf (cxComp X N' ns scope ex s₀ H₀) ifs tc ∧ PE (cxComp X N' ns scope ex s₀ H₀) elt te)
    (I2 : Inv X pins σ H2 s2) (T : Turn X.prog X.w X.K tg J fp it tn) (st2 : tn 0 s2.heap) (f2 : ∀ b ∈ fp, FpOk X pins H2 b)
    (q : ∀ D, H2 D = none → ∃ W : Nat → Nat → Hp → Prop, (∃ m, W 0 m (upd H2 D (.lst []))) ∧ ∀ i m H2', W i m H2' →
      (J.stop i H2' ∧ Q (.ref D) H2') ∨ (J.go i H2' ∧ ∃ N : Hp → Prop, (∀ H', N H' → ∃ m', m' < m ∧ W (i + 1) m' H') ∧ ∀ x H3, J.yld i H2' x H3 →
        g x (List.replicate ns.length none ++ σ) H3 fun σ4 H4 => (σ4.length = ns.length + σ.length ∧ ∀ j, ns.length ≤ j → σ4[j]? = (List.replicate ns.length none ++ σ)[j]?) ∧
          tc σ4 H4 fun b H5 => if b = true then te σ4 H5 fun y H6 => ∃ ys, H6 D = some (.lst ys) ∧ ys.length < sizeLine ∧ N (upd H6 D (.lst (ys ++ [y]))) else N H5))
    (hR : ∀ D C s', (∃ m, s'.heap.Ns C m) → s2.heap.objs.size ≤ C → (∃ H', Inv X pins σ H' s' ∧ H' C = none ∧ Q (.ref D) H') → RR (.ref D) C (.ok .next) s') :
    wpAny (model X.prog X.w) X.A (newList []) (fun acc s₃ => wpAny (model X.prog X.w) X.A (newFunctionEnv scope X.env.globals (closL X.env scope.names []) [] X.env.qual none .none (some X.env)) (fun cenv s₄ =>
      codeAny (model X.prog X.w) X.A (.compStart (.ListComp elt [⟨tg, iter, ifs, 0⟩] scope pos) 0 (.ref it) acc { cenv with scope := relabel scope X.env }) (RR acc cenv.locals) s₄) E s₃) E s2 := by
  refine wpAny_newObj_type (wp_blockEnv fun h₁ hns₁ old hcl₁ => ?_)
  dsimp only at hns₁ old hcl₁ ⊢
  have D0 := I2.fresh
  obtain ⟨W, ⟨m0, w0⟩, turn⟩ := q _ D0
  have I3 : Inv X pins σ (upd H2 s2.heap.objs.size (.lst [])) { s2 with heap := s2.heap.push { cls := .type "list", data := .seq ([] : List Value).toArray }, toks := s2.toks } := I2.lnew (ys := []) (its := []) .nil (Nat.zero_le _)
  have C0 := I3.fresh
  dsimp only at C0
  -- the iterator's objects are older than the list
  have fplt : ∀ b ∈ fp, b < s2.heap.objs.size := fun b hb => by
    obtain ⟨o, e, _⟩ := T.obj _ _ st2 b hb
    exact Heap.lt_size e
  have f3 : ∀ b ∈ fp, FpOk X pins (upd H2 s2.heap.objs.size (.lst [])) b ∧ b < (s2.heap.push { cls := .type "list", data := .seq ([] : List Value).toArray }).objs.size := fun b hb => by
    have := fplt b hb
    refine ⟨⟨?_, (f2 b hb).2⟩, by rw [Heap.size_push]; exact Nat.lt_succ_of_lt this⟩
    rw [upd_ne (Nat.ne_of_lt this)]
    exact (f2 b hb).1
  have I4 := inv_comp (N' := N') (ns := ns) (scope := scope) (tk := s2.toks) I3 S f3 hns₁ old hcl₁
  have st4 : tn 0 h₁ := T.keep _ _ _ st2 fun b hb o e => old b o (Heap.get?_push_of_some _ e)
  obtain ⟨bG, bT, bE⟩ := hb fp { s2 with heap := s2.heap.push { cls := .type "list", data := .seq ([] : List Value).toArray }, toks := s2.toks } (upd H2 s2.heap.objs.size (.lst []))
  generalize hX : cxComp X N' ns scope fp { s2 with heap := s2.heap.push { cls := .type "list", data := .seq ([] : List Value).toArray }, toks := s2.toks } (upd H2 s2.heap.objs.size (.lst [])) = X' at *
  have eP : X'.prog = X.prog := by rw [← hX]; rfl
  have eW : X'.w = X.w := by rw [← hX]; rfl
  have eK : X'.K = X.K := by rw [← hX]; rfl
  have eA : X'.A = X.A := by rw [← hX]; rfl
  have eC : X'.calm = true := by rw [← hX]; exact hc
  have eX : X'.xe = fun _ _ => False := by rw [← hX]; rfl
  have eN : X'.pn = [] := by rw [← hX]; rfl
  have eE : X'.env = compEnvC scope (cellsFrom ((s2.heap.push { cls := .type "list", data := .seq ([] : List Value).toArray }).objs.size + 1) scope.names (closL X.env scope.names [])) (s2.heap.push { cls := .type "list", data := .seq ([] : List Value).toArray }).objs.size X.env := by rw [← hX]; rfl
  have eL : X'.N.length = ns.length + X.N.length := by rw [← hX]; show (ns ++ N').length = _; rw [List.length_append, S.len]
  have efp : ∀ {H' : Hp}, (∀ b ∈ fp, H' b = none) → ∀ b ∈ fp, FpOk X' [] H' b := fun {H'} hn b hb => by
    obtain ⟨⟨_, g1, g2, g3, g4, g5⟩, g6⟩ := f3 b hb
    refine ⟨hn b hb, ?_, ?_, ?_, ?_, ?_⟩
    · rw [eE]; exact Nat.ne_of_lt g6
    · rw [← hX]
      intro z
      rcases List.mem_cons.mp (I3.stkSub b z) with z | z
      · exact g1 z
      · exact g2 z
    · rw [← hX]; exact .inl hb
    · rw [eE]
      intro x c e
      rcases cells_cases _ _ _ e with z | z
      · exact g4 x c (closL_look scope.names [] (S.clos I2.ok) (fun y c e => by cases e) x c z)
      · exact fun q => by rw [← q] at g6; exact absurd z.1 (Nat.not_le_of_lt (Nat.lt_succ_of_lt g6))
    · rw [eN]; intro p hp; simp at hp
  have loop : ∀ s₃ : Shared, s₃ = { s2 with heap := h₁, toks := s2.toks } →
      codeAny (model X.prog X.w) X.A (.compLoop (.ListComp elt [⟨tg, iter, ifs, 0⟩] scope pos) 0 (.ref it) (.ref s2.heap.objs.size) (compEnvC scope (cellsFrom ((s2.heap.push { cls := .type "list", data := .seq ([] : List Value).toArray }).objs.size + 1) scope.names (closL X.env scope.names [])) (s2.heap.push { cls := .type "list", data := .seq ([] : List Value).toArray }).objs.size X.env))
        (RR (.ref s2.heap.objs.size) (s2.heap.push { cls := .type "list", data := .seq ([] : List Value).toArray }).objs.size) s₃ := by
    rintro s₃ rfl
    refine compLoop_gen (fun n s' => ∃ i H', Inv X' [] (List.replicate ns.length none ++ σ) H' s' ∧ tn i s'.heap ∧ (∀ b ∈ fp, H' b = none) ∧ W i n H') ?_ m0 ⟨0, _, I4, st4, fun b hb => (f3 b hb).1.1, w0⟩
    rintro n s3 ⟨i, H3, J3, st3, fr3, w3⟩
    rcases turn i n H3 w3 with ⟨stop, qn⟩ | ⟨go, N, hN, step⟩
    · have d := T.done X' eP eW eK eC i [] s3 _ H3 (fun _ _ => False) J3 (efp fr3) st3 stop
      rw [eA] at d
      refine thn d ?_
      rintro r s4 ⟨hr, J4⟩
      subst hr
      refine hR _ _ s4 ?_ (by rw [Heap.size_push]; omega) ?_
      · obtain ⟨m, hn, _⟩ := J4.loc
        rw [eE] at hn
        exact ⟨m, hn⟩
      · -- back to the frame
        have b4 := J4.base
        rw [← hX] at b4
        have b4 : Un (frs X.stack) fp (upd H2 s2.heap.objs.size (.lst [])) H3 (s2.heap.push { cls := .type "list", data := .seq ([] : List Value).toArray }) s4.heap := b4
        obtain ⟨hh, gs, dr, tk, os⟩ := s4
        have o4 := J4.os
        rw [← hX] at o4
        have o4 : os = s2.os := o4
        subst o4
        have hok4 := J4.hok
        rw [eP, eW] at hok4
        refine ⟨H3, Inv.call (s := { s2 with heap := s2.heap.push { cls := .type "list", data := .seq ([] : List Value).toArray }, toks := s2.toks }) I3 (h' := hh) (g' := gs) (d' := dr) (t' := tk) (ch := fp) b4 hok4 J4.bare (fun b hb => ?_), ?_, qn⟩
        · obtain ⟨⟨_, g1, g2, g3, g4, g5⟩, g6⟩ := f3 b hb
          exact ⟨g3, g1, g4, g5⟩
        · have z := J4.free
          rw [eE] at z
          exact z
    · have d := T.item X' eP eW eK eC i [] s3 _ H3 (fun _ _ => False) J3 (efp fr3) st3 go
      rw [eA] at d
      refine thn d ?_
      rintro r s4 ⟨u, hr, h4⟩
      subst hr
      refine thn h4 ?_
      rintro _ s5 ⟨x, H5, J5, r5, y5, st5, fr5⟩
      have J5' := J5.pinned (efp fr5) (T.obj _ _ st5)
      have a := bG _ s5 _ H5 x u _ J5' r5 (step x H5 y5)
      rw [eA, eX, eP, eW, eE] at a
      refine thn a fun _ s6 ⟨σ6, H6, J6, ⟨l6, g6⟩, q6⟩ => ?_
      have again : ∀ {s7 : Shared} {H7 : Hp}, Inv X' ([] ++ pinsAt fp s5.heap) σ6 H7 s7 → N H7 → ∃ m, m < n ∧ ∃ i H', Inv X' [] (List.replicate ns.length none ++ σ) H' s7 ∧ tn i s7.heap ∧ (∀ b ∈ fp, H' b = none) ∧ W i m H' := fun {s7 H7} I7 n7 => by
        obtain ⟨m', hm, w7⟩ := hN H7 n7
        refine ⟨m', hm, i + 1, H7, I7.unpinned.weak (by rw [List.length_append, List.length_replicate]; exact l6.symm) (fun j v e => ?_), T.keep _ _ _ st5 fun b hb o e => (I7.pin (b, o) (List.mem_append_right _ (List.mem_append_right _ (mem_pinsAt hb e)))).1, fun b hb => ?_, w7⟩
        · by_cases hj : j < ns.length
          · rw [List.getElem?_append_left (by simpa using hj), List.getElem?_replicate] at e
            split at e <;> cases e
          · rw [g6 j (by first | assumption | exact Nat.le_of_lt ‹_› | omega)]
            exact e
        · obtain ⟨o, e, d⟩ := T.obj _ _ st5 b hb
          exact (I7.pin (b, o) (List.mem_append_right _ (List.mem_append_right _ (mem_pinsAt hb e)))).2.1
      have t := bT _ s6 σ6 H6 _ J6 q6
      rw [eA, eX, eP, eW, eE] at t
      refine thn t ?_
      rintro ok s7 ⟨H7, J7, q7⟩
      cases ok with
      | false =>
        rw [if_neg Bool.false_ne_true] at q7 ⊢
        exact again J7 q7
      | true =>
        rw [if_pos rfl] at q7 ⊢
        have v := bE _ s7 σ6 H7 _ J7 q7
        rw [eA, eX, eP, eW, eE] at v
        refine thn v ?_
        rintro xv s8 ⟨y, H8, J8, r8, ys, hD, hz, n8⟩
        have ap := mt_append (X := X') _ s8 σ6 H8 (.ref s2.heap.objs.size) [y] (.ref s2.heap.objs.size) [xv] (fun v H' => N H') J8 rfl (.cons r8 .nil) ⟨_, ys, y, rfl, rfl, hD, hz, n8⟩
        rw [eA, eX, eP, eW] at ap
        refine thn ap ?_
        rintro _ s9 ⟨z, H9, J9, _, n9⟩
        exact again J9 n9
  exact codeAny_compStart_list (loop _ rfl) (T.self _ 0 _ _ _ st4 (loop _ rfl))

theorem pe_comp (hc : X.calm = true) (S : CompScope X N' ns scope) (hi : PI X tg iter wi)
    (hb : ∀ ex s₀ H₀, PG (cxComp X N' ns scope ex s₀ H₀) tg g ∧ PIf (cxComp X N' ns scope ex s₀ H₀) ifs tc ∧ PE (cxComp X N' ns scope ex s₀ H₀) elt te)
    (hs : ∀ x, foldedSetIterable iter X.env x = pure x := by intro _; rfl) : PE X (.ListComp elt [⟨tg, iter, ifs, 0⟩] scope pos) (tComp ns.length wi g tc te) := by
  intro pins s σ H Q I h
  rw [eval_ListComp]
  refine wpAny_comprehension_free (use := none) rfl hs (closureFor_eq (S.clos I.ok)) S.kind S.names (thn (hi pins s σ H _ I h) fun v s1 h1 => thn h1 fun itv s2 h2 => ?_)
  obtain ⟨it, fp, tn, J, H2, e, I2, T, st2, f2, q⟩ := h2
  subst e
  refine comp_block (Q := Q) hc S hb I2 T st2 f2 q (RR := fun acc C => compPost (model X.prog X.w) X.A X.xe none (EP X pins σ Q) acc C) fun D C s' hn hC hI => ?_
  obtain ⟨m, hn⟩ := hn
  obtain ⟨H', I', hCn, qq⟩ := hI
  refine ⟨m, hn, fun h' hs' => ⟨.ref D, H', ?_, rfl, qq⟩⟩
  have g := I2.fpOk (b := C) (H' := H') hC hCn
  exact I'.turned (h' := h') (t' := s'.toks) (it := C) (fun b o hb e => hs'.extBut b o hb e) hCn g.2.1 g.2.2.2.1 g.2.2.2.2.1 g.2.2.2.2.2
end
end PD

set_option Elab.async false
set_option linter.all false
set_option maxRecDepth 100000
namespace PD
open PySem PySem.Spec L2

noncomputable def sComp (i n : Nat) (wi : TI) (g : TG) (tc : TT) (te : TE) : TS := fun D σ H => tComp n wi g tc te σ H fun v H' => D.nx (σ.set i (some v)) H'
section
variable {X : Cx} {tg iter elt : Expr} {ifs : List Expr} {scope : Scope} {pos spos py : Pos} {N' ns : List Str} {wi : TI} {g : TG} {tc : TT} {te : TE} {i : Nat} {y : Str}
theorem ps_comp (hc : X.calm = true) (S : CompScope X N' ns scope) (hi : PI X tg iter wi)
    (hb : ∀ ex s₀ H₀, PG (cxComp X N' ns scope ex s₀ H₀) tg g ∧ PIf (cxComp X N' ns scope ex s₀ H₀) ifs tc ∧ PE (cxComp X N' ns scope ex s₀ H₀) elt te)
    (hN : X.N.Nodup) (hy : X.N[i]? = some y) (hl : X.env.scope.names.lookup y = some .local)
    (hsw : swapsWith (.ListComp elt [⟨tg, iter, ifs, 0⟩] scope pos) (some (.Name y py)) spos.line X.env = pure true)
    (hs : ∀ x, foldedSetIterable iter X.env x = pure x := by intro _; rfl) : PS X (.Assign [.Name y py] (.ListComp elt [⟨tg, iter, ifs, 0⟩] scope pos) spos) (sComp i ns.length wi g tc te) := by
  intro pins s σ H D I h
  rw [exec_Assign_Name_used _ _ _ _ hsw]
  refine wpAny_bind (wpAny_standAt (wpAny_bind ?_))
  show wpAny _ X.A (do let _ ← comprehension (.ListComp elt [⟨tg, iter, ifs, 0⟩] scope pos) scope X.env _ (newList []) false (eval iter X.env) (some (assign (.Name y py) X.env))) _ _ s
  refine wpAny_bind (wpAny_mono (wpAny_comprehension_free (use := some (assign (.Name y py) X.env)) (Q := fun _ s' => SP X pins D .next s') rfl hs (closureFor_eq (S.clos I.ok)) S.kind S.names (thn (hi pins s σ H _ I h) fun v s1 h1 => thn h1 fun itv s2 h2 => ?_))
    (fun _ s' hq => wpAny_pure (wpAny_pure hq)) fun _ _ e => e)
  obtain ⟨it, fp, tn, J, H2, e, I2, T, st2, f2, q⟩ := h2
  subst e
  refine comp_block (Q := fun v H' => D.nx (σ.set i (some v)) H') hc S hb I2 T st2 f2 q (RR := fun acc C => compPost (model X.prog X.w) X.A X.xe (some (assign (.Name y py) X.env)) (fun _ s' => SP X pins D .next s') acc C) fun L C s' hn hC hI => ?_
  obtain ⟨m, hn⟩ := hn
  obtain ⟨H', I', hCn, qq⟩ := hI
  have g := I2.fpOk (b := C) (H' := H') hC hCn
  show wpAny _ X.A (assign (.Name y py) X.env (.ref L)) _ _ s'
  refine wpAny_assign_Name (store_ok2 (v := .ref L) I' hN hy (.inl hl) rfl (fun s'' I'' hsb => ?_) (.inr hl))
  obtain ⟨a, sb, ha⟩ := hsb
  have hCa : C ≠ a := by
    rcases ha with z | z
    · rw [z]; exact g.2.1
    · exact (g.2.2.2.2.1 y a z).symm
  refine ⟨m, hn.sameBut sb hCa, fun h' hs' => ⟨_, H', ?_, qq⟩⟩
  exact I''.turned (h' := h') (t' := s''.toks) (it := C) (fun b o hb e => hs'.extBut b o hb e) hCn g.2.1 g.2.2.2.1 g.2.2.2.2.1 g.2.2.2.2.2
end

set_option genSizeOf false in
set_option genInjectivity false in
structure ItIs (K : PySem.W.Frag) (G B : Hp) (J : It) (ds : List D) : Prop where
  go : ∀ (i : Nat) H, Same B H → i < ds.length → J.go i H
  yld : ∀ (i : Nat) H x H' Gc, Same B H → Same G Gc → Same Gc H → i < ds.length → J.yld i H x H' → ∃ G' d, Ext Gc H G' H' ∧ ds[i]? = some d ∧ Rep K G' x d
  stop : ∀ H, Same B H → J.stop ds.length H
noncomputable def TI1 (K : PySem.W.Frag) (f : Rho → Option (List D)) : TI := fun σ H R => ∃ ρ G0 H0 G ds, EnvR K G0 H0 ρ σ G H ∧ f ρ = some ds ∧ ∀ J H' G', Ext G H G' H' → ItIs K G' G' J ds → R J H'
noncomputable def TI2 (K : PySem.W.Frag) (f : Rho → Option (List D)) : TI := fun σ H R => ∃ ρ G0 H0 G ds, EnvR K G0 H0 ρ σ G H ∧ f ρ = some ds ∧ ∀ J H' G' B, Ext G H G' H' → Same B H' → ItIs K G' B J ds → R J H'
noncomputable def Iv (X : Cx) (tg e : Expr) (f : Rho → Option (List D)) : Prop := PI X tg e (TI1 X.K f)
noncomputable def Ir (X : Cx) (tg e : Expr) (f : Rho → Option (List D)) : Prop := PI X tg e (TI2 X.K f)
theorem pi_imp {X : Cx} {tg e : Expr} {t t' : TI} (h : PI X tg e t) (i : ∀ σ H R, t' σ H R → t σ H R) : PI X tg e t' := fun pins s σ H Q I q => h pins s σ H Q I (i σ H Q q)
theorem Iv.r {X : Cx} {tg e : Expr} {f : Rho → Option (List D)} (h : Iv X tg e f) : Ir X tg e f := pi_imp h <| by rintro σ H R ⟨ρ, G0, H0, G, ds, E, hf, k⟩; exact ⟨ρ, G0, H0, G, ds, E, hf, fun J H' G' x j => k J H' G' G' x x.gh j⟩
theorem pi_seq {X : Cx} {tg l : Expr} {tl : TE} (hl : PE X l tl) : PI X tg l (fun σ H R => tl σ H fun x H1 => ∃ a, x = .ref a ∧ (((∃ xs, SqL X.K H1 a xs) ∧ R (Itl X.K a) H1) ∨ ((∃ xs, SqT X.K H1 a xs) ∧ R (Itt X.K a) H1))) := by
  intro pins s σ H R I h
  refine thn (hl pins s σ H _ I h) ?_
  rintro v s1 ⟨x, H1, I1, r1, q1⟩
  obtain ⟨a, e, q⟩ := q1
  subst e
  cases r1
  have fp : ∀ b ∈ [s1.heap.objs.size], FpOk X pins H1 b := fun b hb => by
    have e : b = s1.heap.objs.size := by simpa using hb
    subst e
    exact I1.fpOk (Nat.le_refl _) (I1.hok.fresh (Nat.le_refl _))
  rcases q with ⟨⟨xs, hq⟩, q⟩ | ⟨⟨xs, hq⟩, q⟩
  · obtain ⟨its, rv, p, hz⟩ := I1.list hq
    refine wpAny_pyIter_list p.isList ?_
    exact ⟨s1.heap.objs.size, [s1.heap.objs.size], _, _, H1, rfl, I1.kept (t' := s1.toks) fun b o e => Heap.get?_push_of_some _ e, turn_list a _, ⟨_, Heap.get?_push_size _ rfl, rfl, rfl⟩, fp, q⟩
  · obtain ⟨its, rv, p, hz⟩ := I1.tuple hq
    refine wpAny_pyIter_tuple (show s1.heap.IsTuple a its.toArray from p) ?_
    exact ⟨s1.heap.objs.size, [s1.heap.objs.size], _, _, H1, rfl, I1.kept (t' := s1.toks) fun b o e => Heap.get?_push_of_some _ e, turn_tuple a _, ⟨_, Heap.get?_push_size _ rfl, rfl, rfl⟩, fp, q⟩
noncomputable def seqD : D → Option (List D)
  | .tup ds => some ds
  | .lst ds => some ds
  | _ => none
theorem itt_is {K : PySem.W.Frag} {G B : Hp} {a : Addr} {xs : List V} {ds : List D} (h : SqT K B a xs) (r : Reps K G xs ds) : ItIs K G B (Itt K a) ds where
  go := fun i H s hi => by
    have hi' : i < xs.length := by rw [r.length]; exact hi
    exact ⟨xs, xs[i], Same.sqT s h, List.getElem?_eq_getElem hi'⟩
  yld := fun i H x H' Gc s g gh hi y => by
    obtain ⟨rfl, y⟩ := y
    obtain ⟨d, h1, h2⟩ := r.get' (y xs (Same.sqT s h))
    exact ⟨Gc, d, Ext.refl gh, h1, h2.mono g⟩
  stop := fun H s => ⟨xs, Same.sqT s h, Nat.le_of_eq r.length⟩
theorem itl_is {K : PySem.W.Frag} {G B : Hp} {a : Addr} {xs : List V} {ds : List D} (h : SqL K B a xs) (r : Reps K G xs ds) : ItIs K G B (Itl K a) ds where
  go := fun i H s hi => by
    have hi' : i < xs.length := by rw [r.length]; exact hi
    exact ⟨xs, xs[i], Same.sqL s h, List.getElem?_eq_getElem hi'⟩
  yld := fun i H x H' Gc s g gh hi y => by
    obtain ⟨rfl, y⟩ := y
    obtain ⟨d, h1, h2⟩ := r.get' (y xs (Same.sqL s h))
    exact ⟨Gc, d, Ext.refl gh, h1, h2.mono g⟩
  stop := fun H s => ⟨xs, Same.sqL s h, Nat.le_of_eq r.length⟩
section
variable {X : Cx} {tg e : Expr} {f : Rho → Option D}
theorem iv_seq (h : Ev X e f) : Iv X tg e (b1 f seqD) := pi_imp (pi_seq h) <| by
  rintro σ H R ⟨ρ, G0, H0, G, ds, E, hf, k⟩
  obtain ⟨x, e1, e2⟩ := b1_some hf
  refine ⟨ρ, G0, H0, G, x, E, e1, fun v H1 G1 x1 r1 => ?_⟩
  cases r1 with
  | tup h r =>
    cases e2
    exact ⟨_, rfl, .inr ⟨⟨_, Same.sqT x1.gh h⟩, k _ H1 G1 x1 (itt_is h r)⟩⟩
  | lst h r =>
    cases e2
    exact ⟨_, rfl, .inl ⟨⟨_, Same.sqL x1.gh h⟩, k _ H1 G1 x1 (itl_is h r)⟩⟩
  | _ => cases e2
theorem ir_seq (h : Rv X e f) : Ir X tg e (b1 f seqD) := pi_imp (pi_seq h) <| by
  rintro σ H R ⟨ρ, G0, H0, G, ds, E, hf, k⟩
  obtain ⟨x, e1, e2⟩ := b1_some hf
  refine ⟨ρ, G0, H0, G, x, E, e1, fun v H1 G1 x1 r1 => ?_⟩
  cases r1 with
  | rep r1 =>
    cases r1 with
    | tup h r =>
      cases e2
      exact ⟨_, rfl, .inr ⟨⟨_, Same.sqT x1.gh h⟩, k _ H1 G1 H1 x1 (Same.refl _) (itt_is (Same.sqT x1.gh h) r)⟩⟩
    | lst h r =>
      cases e2
      exact ⟨_, rfl, .inl ⟨⟨_, Same.sqL x1.gh h⟩, k _ H1 G1 H1 x1 (Same.refl _) (itl_is (Same.sqL x1.gh h) r)⟩⟩
    | _ => cases e2
  | own h r =>
    cases e2
    exact ⟨_, rfl, .inl ⟨⟨_, SqL.of h⟩, k _ H1 G1 H1 x1 (Same.refl _) (itl_is (SqL.of h) r)⟩⟩
noncomputable def rngL (lo : Int) (n : Nat) : List D := (List.range n).map fun i => .int (lo + (i : Nat))
noncomputable def rng1 : List D → Option (List D)
  | [.int j] => if -(2 ^ 62) ≤ j ∧ j < 2 ^ 62 then some (rngL 0 j.toNat) else none
  | _ => none
noncomputable def rng2 : List D → Option (List D)
  | [.int i, .int j] => if -(2 ^ 62) ≤ i ∧ i < 2 ^ 62 ∧ -(2 ^ 62) ≤ j ∧ j < 2 ^ 62 then some (rngL i (j - i).toNat) else none
  | _ => none
theorem itr_is {K : PySem.W.Frag} {G B : Hp} {lo : Int} {n : Nat} : ItIs K G B (Itr lo n) (rngL lo n) where
  go := fun i H s hi => by
    show i < n
    simpa [rngL] using hi
  yld := fun i H x H' Gc s g gh hi y => by
    obtain ⟨rfl, rfl⟩ := y
    have hi : i < n := by simpa [rngL] using hi
    refine ⟨Gc, .int (lo + i), Ext.refl gh, ?_, .int _⟩
    simp [rngL, List.getElem?_map, List.getElem?_range hi]
  stop := fun H s => by
    show n ≤ (rngL lo n).length
    simp [rngL]
variable {a b : Expr} {fs : Rho → Option (List D)} {p pos : Pos}
theorem iv_range1 (hg : Gl X "range") (hm : X.mg "range" = none) (ha : Ar X [a] fs) (hs : starEach [a] X.env = [(false, eval a X.env)] := by exact star_cons rfl) : Iv X tg (.Call (.Name "range" p) [a] [] pos) (b1 fs rng1) :=
  pi_imp (pi_range1 hg hm ha hs) <| by
    rintro σ H R ⟨ρ, G0, H0, G, ds, E, hf, k⟩
    obtain ⟨xs, e1, e2⟩ := b1_some hf
    refine ⟨ρ, G0, H0, G, xs, E, e1, fun vs H1 G1 x1 r1 => ?_⟩
    unfold rng1 at e2
    split at e2
    · rename_i j
      split at e2
      · rename_i hj
        cases e2
        obtain ⟨v, rfl, r⟩ := r1.one
        cases r.int_inv
        exact ⟨j, rfl, hj.1, hj.2, k _ H1 G1 x1 itr_is⟩
      · cases e2
    · cases e2
theorem iv_range2 (hg : Gl X "range") (hm : X.mg "range" = none) (ha : Ar X [a, b] fs) (hs : starEach [a, b] X.env = [(false, eval a X.env), (false, eval b X.env)] := by rw [star_cons rfl, star_cons rfl]; rfl) (hs2 : starEach [b] X.env = [(false, eval b X.env)] := by exact star_cons rfl) :
    Iv X tg (.Call (.Name "range" p) [a, b] [] pos) (b1 fs rng2) :=
  pi_imp (pi_range2 hg hm ha hs hs2) <| by
    rintro σ H R ⟨ρ, G0, H0, G, ds, E, hf, k⟩
    obtain ⟨xs, e1, e2⟩ := b1_some hf
    refine ⟨ρ, G0, H0, G, xs, E, e1, fun vs H1 G1 x1 r1 => ?_⟩
    unfold rng2 at e2
    split at e2
    · rename_i i j
      split at e2
      · rename_i hj
        cases e2
        obtain ⟨v, u, rfl, r, r'⟩ := r1.two
        cases r.int_inv
        cases r'.int_inv
        exact ⟨i, j, rfl, hj, k _ H1 G1 x1 itr_is⟩
      · cases e2
    · cases e2
end

theorem Ext.mut {G H G' H' : Hp} (e : Ext G H G' H') {p : Addr} (hp : H p = none) (gp : G' p = none) (o : HO) : Ext G H G' (upd H' p o) :=
  ⟨fun b u q => by rw [upd_ne (ne_of_none q hp)]; exact e.hh _ _ q, e.gg, fun b u q => by rw [upd_ne (ne_of_none q gp)]; exact e.gh _ _ q, e.nw⟩
theorem EnvR.push {K : PySem.W.Frag} {G0 H0 G H : Hp} {ρ : Rho} {σ : L2.St} (E : EnvR K G0 H0 ρ σ G H) {v : V} {d : D} (r : Rep K G v d) : EnvR K G0 H0 (some (.sh d) :: ρ) (some v :: σ) G H where
  ext := E.ext
  len := by simp [E.len]
  sh := fun i e q => by
    cases i with
    | zero => simp at q; subst q; exact ⟨v, rfl, r⟩
    | succ i => exact E.sh i e (by simpa using q)
  ow := fun i e q => by
    cases i with
    | zero => simp at q
    | succ i => exact E.ow i e (by simpa using q)
  ne := fun i j e f hij q1 q2 => by
    cases i with
    | zero => simp at q1
    | succ i =>
      cases j with
      | zero => simp at q2
      | succ j => exact E.ne i j e f (by first | assumption | exact Nat.le_of_lt ‹_› | omega) (by simpa using q1) (by simpa using q2)
noncomputable def BindC (K : PySem.W.Frag) (n : Nat) (g : TG) (bd : D → Rho → Option Rho) : Prop := ∀ (x : V) (d : D) (ρ ρ' : Rho) (σ : L2.St) (G0 H0 G H : Hp) (Q : L2.St → Hp → Prop), EnvR K G0 H0 ρ σ G H → Rep K G x d → bd d ρ = some ρ' →
  (∀ σ', EnvR K G0 H0 ρ' σ' G H → σ'.length = n + σ.length → (∀ j, n ≤ j → σ'[j]? = (List.replicate n none ++ σ)[j]?) → Q σ' H) → g x (List.replicate n none ++ σ) H Q
noncomputable def bd1 (d : D) (ρ : Rho) : Option Rho := some (some (.sh d) :: ρ)
theorem bindC1 {K : PySem.W.Frag} : BindC K 1 (gName 0) bd1 := by
  intro x d ρ ρ' σ G0 H0 G H Q E r e k
  cases e
  refine k (some x :: σ) (E.push r) (by simp; omega) fun j hj => ?_
  cases j with
  | zero => omega
  | succ j => rfl
noncomputable def bd2 (d : D) (ρ : Rho) : Option Rho := match d with
  | .tup [x, y] => some (some (.sh x) :: some (.sh y) :: ρ)
  | _ => none
theorem bindC2 {K : PySem.W.Frag} : BindC K 2 (gTup K 2 (gCons (gName 0) (gCons (gName 1) gNil))) bd2 := by
  intro x d ρ ρ' σ G0 H0 G H Q E r e k
  unfold bd2 at e
  split at e
  · rename_i y z
    cases e
    obtain ⟨a, xs, rfl, h1, h2, _⟩ := Rep.tup_inv (H := H) E.gh r
    obtain ⟨v, u, rfl, r1, r2⟩ := h2.two
    refine ⟨a, [v, u], rfl, h1, rfl, v, [u], rfl, u, [], rfl, rfl, ?_⟩
    refine k (some v :: some u :: σ) ((E.push r2).push r1) (by simp; omega) fun j hj => ?_
    match j, hj with
    | j + 2, _ => rfl
  · cases e

noncomputable def compG (bd : D → Rho → Option Rho) (c : Rho → Option Bool) (f : Rho → Option D) (ρ : Rho) : List D → Option (List D)
  | [] => some []
  | d :: ds => (bd d ρ).bind fun ρ' => (c ρ').bind fun b => if b = true then (f ρ').bind fun y => (compG bd c f ρ ds).bind fun ys => some (y :: ys) else compG bd c f ρ ds
noncomputable def compD (it : Rho → Option (List D)) (bd : D → Rho → Option Rho) (c : Rho → Option Bool) (f : Rho → Option D) : Rho → Option (List D) := fun ρ => (it ρ).bind fun ds => (compG bd c f ρ ds).bind fun ys => fit ys.length ys
theorem bind_some' {α β : Type} {o : Option α} {k : α → Option β} {z : β} (h : o.bind k = some z) : ∃ x, o = some x ∧ k x = some z := by
  cases o with
  | none => cases h
  | some x => exact ⟨x, rfl, h⟩
theorem t_comp {K : PySem.W.Frag} {n : Nat} {g : TG} {bd : D → Rho → Option Rho} {it : Rho → Option (List D)} {c : Rho → Option Bool} {f : Rho → Option D} (hg : BindC K n g bd) :
    ∀ σ H Q, TF K (compD it bd c f) σ H Q → tComp n (TI2 K it) g (Tt K c) (T K f) σ H Q := by
  rintro σ H Q ⟨ρ, G0, H0, G, rs, E, hf, k⟩
  obtain ⟨ds, e1, hf⟩ := bind_some' hf
  obtain ⟨ys, e2, hf⟩ := bind_some' hf
  obtain ⟨hz, rfl⟩ := fit_some hf
  refine ⟨ρ, G0, H0, G, ds, E, e1, fun J H1 G1 B x1 hB hJ Dn hD => ?_⟩
  have gD : G1 Dn = none := x1.gh.free hD
  refine ⟨fun i m H2 => m = ds.length - i ∧ i ≤ ds.length ∧ ∃ G2 us done rest, Ext G1 H1 G2 H2 ∧ H2 Dn = some (.lst us) ∧ G2 Dn = none ∧ Reps K G2 us done ∧ compG bd c f ρ (ds.drop i) = some rest ∧ done ++ rest = ys,
    ⟨ds.length, by simp, Nat.zero_le _, G1, [], [], ys, Ext.own x1.gh hD _, upd_same, gD, .nil, by simpa using e2, rfl⟩, ?_⟩
  rintro i m H2 ⟨rfl, hi, G2, us, done, rest, x2, h2, g2, r2, hc, hys⟩
  have sB : Same B H2 := hB.trans x2.hh
  by_cases hlt : i < ds.length
  · refine .inr ⟨hJ.go i H2 sB hlt, fun H' => i + 1 ≤ ds.length ∧ ∃ G2 us done rest, Ext G1 H1 G2 H' ∧ H' Dn = some (.lst us) ∧ G2 Dn = none ∧ Reps K G2 us done ∧ compG bd c f ρ (ds.drop (i + 1)) = some rest ∧ done ++ rest = ys,
      fun H' q => ⟨ds.length - (i + 1), by omega, rfl, q.1, q.2⟩, fun x H3 y => ?_⟩
    obtain ⟨G3, d, x3, hd, rd⟩ := hJ.yld i H2 x H3 G2 sB x2.gg x2.gh hlt y
    have ed : ds.drop i = d :: ds.drop (i + 1) := by
      have : ds[i] = d := by rw [List.getElem?_eq_getElem hlt] at hd; exact Option.some.inj hd
      rw [List.drop_eq_getElem_cons hlt, this]
    rw [ed] at hc
    obtain ⟨ρ', hb, hc⟩ := bind_some' (show (bd d ρ).bind _ = some rest from hc)
    obtain ⟨b, hcb, hc⟩ := bind_some' hc
    refine hg x d ρ ρ' σ G0 H0 G3 H3 _ (E.by (x1.trans (x2.trans x3))) rd hb fun σ' E' l' s' => ⟨⟨l', s'⟩, ?_⟩
    refine ⟨ρ', G0, H0, G3, b, E', hcb, fun H5 G5 x5 => ?_⟩
    have stay : ∀ {G6 H6 : Hp}, Ext G2 H2 G6 H6 → H6 Dn = some (.lst us) ∧ G6 Dn = none := fun {G6 H6} x6 => ⟨x6.hh _ _ h2, by
      cases q : G6 Dn with
      | none => rfl
      | some o =>
        rcases x6.nw Dn o q with z | z
        · rw [g2] at z; cases z
        · rw [h2] at z; cases z⟩
    have x35 := x3.trans x5
    cases b with
    | false =>
      rw [if_neg Bool.false_ne_true] at hc
      obtain ⟨s1, s2⟩ := stay x35
      refine iteF ?_
      exact ⟨hlt, G5, us, done, rest, x2.trans x35, s1, s2, r2.mono x35.gg, hc, hys⟩
    | true =>
      rw [if_pos rfl] at hc
      refine iteT ?_
      obtain ⟨yv, hy, hc⟩ := bind_some' hc
      obtain ⟨rest', hr, hc⟩ := bind_some' hc
      cases hc
      refine ⟨ρ', G0, H0, G5, yv, E'.by x5, hy, fun v H6 G6 x6 r6 => ?_⟩
      have x56 := x35.trans x6
      obtain ⟨s1, s2⟩ := stay x56
      refine ⟨us, s1, ?_, hlt, G6, us ++ [v], done ++ [yv], rest', (x2.trans x56).mut hD s2 _, upd_same, s2, (r2.mono x56.gg).append (.cons r6 .nil), hr, ?_⟩
      · have := congrArg List.length hys
        rw [List.length_append, List.length_cons] at this
        rw [r2.length]
        omega
      · rw [List.append_assoc]; exact hys
  · have e : i = ds.length := by omega
    subst e
    refine .inl ⟨hJ.stop H2 sB, ?_⟩
    rw [List.drop_of_length_le (Nat.le_refl _)] at hc
    cases hc
    rw [List.append_nil] at hys
    subst hys
    exact k Dn us H2 G2 (x1.trans x2) h2 g2 (x1.hh.free hD) r2
section
variable {X : Cx} {tg iter elt : Expr} {ifs : List Expr} {scope : Scope} {pos spos py : Pos} {N' ns : List Str} {g : TG} {i : Nat} {y : Str} {bd : D → Rho → Option Rho} {it : Rho → Option (List D)} {c : Rho → Option Bool} {f : Rho → Option D}
noncomputable def Tf (X : Cx) (ifs : List Expr) (c : Rho → Option Bool) : Prop := PIf X ifs (Tt X.K c)
theorem tf_nil : Tf X [] (fun _ => some true) := by
  rintro pins s σ H Q I ⟨ρ, G0, H0, G, b, E, hf, k⟩
  cases hf
  exact pif_nil pins s σ H Q I (k H G (Ext.refl E.gh))
theorem tf_one {e : Expr} (h : Ts X e c) : Tf X [e] c := pif_one h
theorem fv_comp (hc : X.calm = true) (S : CompScope X N' ns scope) (hi : Ir X tg iter it) (hg : BindC X.K ns.length g bd)
    (hb : ∀ ex s₀ H₀, PG (cxComp X N' ns scope ex s₀ H₀) tg g ∧ Tf (cxComp X N' ns scope ex s₀ H₀) ifs c ∧ Ev (cxComp X N' ns scope ex s₀ H₀) elt f)
    (hs : ∀ x, foldedSetIterable iter X.env x = pure x := by intro _; rfl) : Fv X (.ListComp elt [⟨tg, iter, ifs, 0⟩] scope pos) (compD it bd c f) :=
  pe_imp (pe_comp hc S hi hb hs) (t_comp hg)
end
end PD

set_option Elab.async false
set_option linter.all false
set_option maxRecDepth 100000
namespace PD
open PySem PySem.Spec L2

noncomputable def intOp (g : Int → Int → Option D) : D → D → Option D
  | .int i, .int j => g i j
  | _, _ => none
theorem intOp_some {g : Int → Int → Option D} {x y d : D} (h : intOp g x y = some d) : ∃ i j, x = .int i ∧ y = .int j ∧ g i j = some d := by
  unfold intOp at h
  split at h
  · exact ⟨_, _, rfl, rfl, h⟩
  · cases h
theorem d_rI0 {K : PySem.W.Frag} (g : Int → Int → V) (g' : Int → Int → D) (r : ∀ i j G, Rep K G (g i j) (g' i j)) : OpD K (rI0 g) (intOp fun i j => some (g' i j)) := by
  intro v u x y G H Q d s rv ru e k
  obtain ⟨i, j, rfl, rfl, e⟩ := intOp_some e
  cases rv.int_inv
  cases ru.int_inv
  cases e
  exact ⟨i, j, rfl, rfl, k _ H G (Ext.refl s) (r i j G)⟩
theorem d_rI {K : PySem.W.Frag} (C : Int → Int → Prop) [∀ i j, Decidable (C i j)] (g : Int → Int → V) (g' : Int → Int → D) (r : ∀ i j G, Rep K G (g i j) (g' i j)) : OpD K (rI C g) (intOp fun i j => if C i j then some (g' i j) else none) := by
  intro v u x y G H Q d s rv ru e k
  obtain ⟨i, j, rfl, rfl, e'⟩ := intOp_some e
  cases rv.int_inv
  cases ru.int_inv
  clear e
  split at e'
  · rename_i hc
    cases e'
    exact ⟨i, j, rfl, rfl, hc, k _ H G (Ext.refl s) (r i j G)⟩
  · cases e'
instance (i j : Int) : Decidable (CDiv i j) := by unfold CDiv; infer_instance
instance (i j : Int) : Decidable (CDivN i j) := by unfold CDivN; infer_instance
instance (i j : Int) : Decidable (CMul i j) := by unfold CMul; infer_instance
noncomputable abbrev subD : D → D → Option D := intOp fun i j => some (.int (i - j))
noncomputable abbrev fdivD : D → D → Option D := intOp fun i j => if CDiv i j then some (.int (i / j)) else none
noncomputable abbrev modD : D → D → Option D := intOp fun i j => if 0 < j then some (.int (i % j)) else none
noncomputable abbrev ltD : D → D → Option D := intOp fun i j => some (.bl (decide (i < j)))
noncomputable abbrev leD : D → D → Option D := intOp fun i j => some (.bl (decide (i ≤ j)))
noncomputable abbrev gtD : D → D → Option D := intOp fun i j => some (.bl (decide (j < i)))
section
variable {X : Cx} {a b c : Expr} {f g h : Rho → Option D} {pos : Pos}
theorem ev_sub (ha : Rv X a f) (hb : Rv X b g) : Ev X (.BinOp a .Sub b pos) (b2 f g subD) := ev_bin op_sub (d_rI0 _ _ fun _ _ _ => .int _) ha hb
theorem ev_fdiv (ha : Rv X a f) (hb : Rv X b g) : Ev X (.BinOp a .FloorDiv b pos) (b2 f g fdivD) := ev_bin op_fdiv (d_rI _ _ _ fun _ _ _ => .int _) ha hb
theorem ev_mod (ha : Rv X a f) (hb : Rv X b g) : Ev X (.BinOp a .Mod b pos) (b2 f g modD) := ev_bin op_mod (d_rI _ _ _ fun _ _ _ => .int _) ha hb
theorem ev_le (ha : Rv X a f) (hb : Rv X b g) : Ev X (.Compare a [.LtE] [b] pos) (b2 f g leD) := ev_cmp op_le (d_rI0 _ _ fun _ _ _ => .bl _) ha hb (nomark _)
theorem ev_gt (ha : Rv X a f) (hb : Rv X b g) : Ev X (.Compare a [.Gt] [b] pos) (b2 f g gtD) := ev_cmp op_gt (d_rI0 _ _ fun _ _ _ => .bl _) ha hb (nomark _)
theorem ts_lt (ha : Rv X a f) (hb : Rv X b g) : Ts X (.Compare a [.Lt] [b] pos) (b1 (b2 f g ltD) isB) := ts_cmp op_lt (d_rI0 _ _ fun _ _ _ => .bl _) ha hb (nomark _)
theorem ts_le (ha : Rv X a f) (hb : Rv X b g) : Ts X (.Compare a [.LtE] [b] pos) (b1 (b2 f g leD) isB) := ts_cmp op_le (d_rI0 _ _ fun _ _ _ => .bl _) ha hb (nomark _)
theorem ts_gt (ha : Rv X a f) (hb : Rv X b g) : Ts X (.Compare a [.Gt] [b] pos) (b1 (b2 f g gtD) isB) := ts_cmp op_gt (d_rI0 _ _ fun _ _ _ => .bl _) ha hb (nomark _)
theorem ev_eq {k : Nat} (hr : Room k X.A) (ha : Rv X a f) (hb : Rv X b g) : Ev X (.Compare a [.Eq] [b] pos) (b2 f g eqOp) := ev_cmp (op_eqD hr) d_eq ha hb (nomark _)
theorem ts_eq {k : Nat} (hr : Room k X.A) (ha : Rv X a f) (hb : Rv X b g) : Ts X (.Compare a [.Eq] [b] pos) (b1 (b2 f g eqOp) isB) := ts_cmp (op_eqD hr) d_eq ha hb (nomark _)
theorem ts_ne {k : Nat} (hr : Room k X.A) (ha : Rv X a f) (hb : Rv X b g) : Ts X (.Compare a [.NotEq] [b] pos) (b1 (b2 f g neOp) isB) := ts_cmp (op_neD hr) d_ne ha hb (nomark _)
noncomputable def negD : D → Option D
  | .int i => some (.int (-i))
  | _ => none
theorem ev_neg (ha : Rv X a f) : Ev X (.UnaryOp .USub a pos) (b1 f negD) := ev_un un_neg (fun v x G H Q d s rv e k => by
  cases x with
  | int i =>
    cases rv.int_inv
    cases e
    exact ⟨i, rfl, k _ H G (Ext.refl s) (.int _)⟩
  | _ => cases e) ha
noncomputable def isNonD : D → D → Option D
  | .non, .non => some (.bl true)
  | _, .non => some (.bl false)
  | _, _ => none
noncomputable def notNonD : D → D → Option D
  | .non, .non => some (.bl false)
  | _, .non => some (.bl true)
  | _, _ => none
theorem repP_non {K : PySem.W.Frag} {G H : Hp} {v : V} {x : D} (r : RepP K G H v x) : v = .non ↔ x = .non := by
  constructor
  · rintro rfl
    cases r with
    | rep r => cases r; rfl
  · rintro rfl
    exact r.non_inv
theorem d_isN {K : PySem.W.Frag} : OpD K (fun x y H Q => y = .non ∧ Q (.bl (decide (x = .non))) H) isNonD := by
  intro v u x y G H Q d s rv ru e k
  have h := repP_non rv
  unfold isNonD at e
  split at e
  · cases e
    cases ru.non_inv
    refine ⟨rfl, ?_⟩
    rw [decide_eq_true (h.mpr rfl)]
    exact k _ H G (Ext.refl s) (.bl _)
  · rename_i hx
    cases e
    cases ru.non_inv
    refine ⟨rfl, ?_⟩
    rw [decide_eq_false fun z => hx (h.mp z)]
    exact k _ H G (Ext.refl s) (.bl _)
  · cases e
theorem d_notN {K : PySem.W.Frag} : OpD K (fun x y H Q => y = .non ∧ Q (.bl (!decide (x = .non))) H) notNonD := by
  intro v u x y G H Q d s rv ru e k
  have h := repP_non rv
  unfold notNonD at e
  split at e
  · cases e
    cases ru.non_inv
    refine ⟨rfl, ?_⟩
    rw [decide_eq_true (h.mpr rfl)]
    exact k _ H G (Ext.refl s) (.bl _)
  · rename_i hx
    cases e
    cases ru.non_inv
    refine ⟨rfl, ?_⟩
    rw [decide_eq_false fun z => hx (h.mp z)]
    exact k _ H G (Ext.refl s) (.bl _)
  · cases e
theorem ev_isN (ha : Rv X a f) (hb : Rv X b g) : Ev X (.Compare a [.Is] [b] pos) (b2 f g isNonD) := ev_cmp op_isN d_isN ha hb (nomark _)
theorem ts_isN (ha : Rv X a f) (hb : Rv X b g) : Ts X (.Compare a [.Is] [b] pos) (b1 (b2 f g isNonD) isB) := ts_cmp op_isN d_isN ha hb (nomark _)
theorem ts_notN (ha : Rv X a f) (hb : Rv X b g) : Ts X (.Compare a [.IsNot] [b] pos) (b1 (b2 f g notNonD) isB) := ts_cmp op_notN d_notN ha hb (nomark _)

theorem op_catT0 : OpR X (binaryOp .Add) (fun x y H Q => ∃ p q ys, x = .ref p ∧ y = .ref q ∧ SqT X.K H p [] ∧ SqT X.K H q ys ∧ Q (.ref q) H) := by
  intro pins s σ H x y v u Q I rx ry h
  obtain ⟨p, q, ys, rfl, rfl, ha, hb, k⟩ := h
  cases rx
  cases ry
  obtain ⟨its, r1, p1, _⟩ := I.tuple ha
  obtain ⟨its2, r2, p2, _⟩ := I.tuple hb
  cases r1
  obtain ⟨⟨cls, dd, data, sl⟩, ho, hc, n, hd⟩ := id p1
  obtain ⟨⟨cls2, dd2, data2, sl2⟩, ho2, hc2, n2, hd2⟩ := id p2
  simp only at hc hd hc2 hd2
  subst hc hd hc2 hd2
  exact concat_meets ⟨_, ho, rfl⟩ ⟨_, ho2, rfl⟩ noFill_tuple_add seq_tuple_add PySem.F.slot_tuple_add PySem.F.entry_tuple_add (PySem.F.args_tuple_add_2 _ _)
    (PyProof.Rows.tuple_addW0 p q _ its2.toArray n n2 dd dd2 sl sl2 (by simp)) ⟨ho, ho2, ⟨.ref q, H, I, rfl, k⟩⟩
noncomputable def rCatL (K : PySem.W.Frag) : R2 := fun x y H Q => ∃ l b xs zs, x = .ref l ∧ y = .ref b ∧ SqL K H l xs ∧ SqL K H b zs ∧ xs.length + zs.length ≤ sizeLine ∧ ∀ p, H p = none → Q (.ref p) (upd H p (.lst (xs ++ zs)))
theorem op_catL : OpR X (binaryOp .Add) (rCatL X.K) := by
  intro pins s σ H x y v u Q I rx ry h
  obtain ⟨l, b, xs, zs, rfl, rfl, hH, hB, hz, q⟩ := h
  cases rx
  cases ry
  obtain ⟨its, r, pl, z1⟩ := I.list hH
  obtain ⟨its2, r2, pl2, z2⟩ := I.list hB
  obtain ⟨⟨cls, dd, data, sl⟩, n, ho, hc, hdd, hd⟩ := pl
  obtain ⟨⟨cls2, dd2, data2, sl2⟩, n2, ho2, hc2, hdd2, hd2⟩ := pl2
  simp only at hc hd hc2 hd2 hdd hdd2
  subst hc hd hc2 hd2 hdd hdd2
  have hl := r.length
  have hl2 := r2.length
  have ea : its.toArray ++ its2.toArray = (its ++ its2).toArray := by simp
  refine concat_meets ⟨_, ho, rfl⟩ ⟨_, ho2, rfl⟩ noFill_list_add seq_list_add PySem.F.slot_list_add PySem.F.entry_list_add (PySem.F.args_list_add_2 _ _) (PyProof.Rows.list_addW l b its.toArray its2.toArray n n2 none none sl sl2 (by simp; omega)) ⟨ho, ho2, ?_⟩
  rw [ea]
  exact ⟨.ref _, _, I.lnew (t' := s.toks) (r.append r2) (by rw [List.length_append]; omega), rfl, q _ I.fresh⟩
end
noncomputable def addD : D → D → Option D
  | .int i, .int j => some (.int (i + j))
  | .str x, .str y => fit (x.length + y.length) (.str (x ++ y))
  | .tup xs, .tup ys => fit (xs.length + ys.length) (.tup (xs ++ ys))
  | .lst xs, .lst ys => fit (xs.length + ys.length) (.lst (xs ++ ys))
  | _, _ => none
noncomputable def rAddD (K : PySem.W.Frag) : R2 := fun x y H Q => (((rI0 (fun i j => V.int (i + j)) x y H Q ∨ (∃ i j, x = .str i ∧ y = .str j ∧ i.length + j.length ≤ sizeLine ∧ Q (.str (i ++ j)) H)) ∨ rCatT K x y H Q) ∨ (∃ p q ys, x = .ref p ∧ y = .ref q ∧ SqT K H p [] ∧ SqT K H q ys ∧ Q (.ref q) H)) ∨ rCatL K x y H Q
theorem op_addD {X : Cx} : OpR X (binaryOp .Add) (rAddD X.K) := (((op_add.or op_add_str).or op_catT).or op_catT0).or op_catL
theorem d_add {K : PySem.W.Frag} : OpD K (rAddD K) addD := by
  intro v u x y G H Q d s rv ru e k
  unfold addD at e
  split at e
  · rename_i i j
    cases rv.int_inv
    cases ru.int_inv
    cases e
    exact .inl (.inl (.inl (.inl ⟨i, j, rfl, rfl, k _ H G (Ext.refl s) (.int _)⟩)))
  · rename_i i j
    cases rv.str_inv
    cases ru.str_inv
    obtain ⟨hz, rfl⟩ := fit_some e
    exact .inl (.inl (.inl (.inr ⟨i, j, rfl, rfl, hz, k _ H G (Ext.refl s) (.str _)⟩)))
  · rename_i xs ys
    obtain ⟨p, vs, rfl, h1, r1, g1⟩ := rv.tup_inv s
    obtain ⟨q, us, rfl, h2, r2, g2⟩ := ru.tup_inv s
    obtain ⟨hz, rfl⟩ := fit_some e
    by_cases hx : vs = []
    · subst hx
      cases r1
      exact .inl (.inr ⟨p, q, us, rfl, rfl, h1, h2, k _ H G (Ext.refl s) (.tup g2 r2)⟩)
    · refine .inl (.inl (.inr ⟨p, q, vs, us, rfl, rfl, h1, h2, hx, by rw [r1.length, r2.length]; exact hz, fun z => ?_, fun z t ht => ?_⟩))
      · subst z
        cases r2
        rw [List.append_nil] at k
        exact k _ H G (Ext.refl s) (.tup g1 r1)
      · have x := Ext.new s ht (.tup (vs ++ us))
        exact k _ _ _ x (.tup (.inl (.inl upd_same)) ((r1.append r2).mono x.gg))
  · rename_i xs ys
    obtain ⟨p, vs, rfl, h1, r1⟩ := rv.lst_inv s
    obtain ⟨q, us, rfl, h2, r2⟩ := ru.lst_inv s
    obtain ⟨hz, rfl⟩ := fit_some e
    refine .inr ⟨p, q, vs, us, rfl, rfl, h1, h2, by rw [r1.length, r2.length]; exact hz, fun t ht => ?_⟩
    have x := Ext.new s ht (.lst (vs ++ us))
    exact k _ _ _ x (.lst (.inl (.inl upd_same)) ((r1.append r2).mono x.gg))
  · cases e
section
variable {X : Cx} {a b c : Expr} {f g h : Rho → Option D} {pos : Pos}
theorem ev_add (ha : Rv X a f) (hb : Rv X b g) : Ev X (.BinOp a .Add b pos) (b2 f g addD) := ev_bin op_addD d_add ha hb
noncomputable def ixD : D → D → Option D
  | .tup xs, .int i => atI xs i
  | .lst xs, .int i => atI xs i
  | .str z, .int i => if z.length ≤ sizeLine then (atI z.cps.toList i).map fun c => .str ⟨#[c]⟩ else none
  | _, _ => none
theorem reps_at {K : PySem.W.Frag} {G : Hp} {vs : List V} {ds : List D} (r : Reps K G vs ds) {i : Int} {d : D} (h : atI ds i = some d) : ∃ v, atI vs i = some v ∧ Rep K G v d := by
  unfold atI at h ⊢
  rw [r.length]
  obtain ⟨j, h1, h2⟩ := bind_some' h
  rw [h1]
  exact r.get h2
theorem d_ix {K : PySem.W.Frag} : OpD K (rIx K) ixD := by
  intro v u x y G H Q d s rv ru e k
  unfold ixD at e
  split at e
  · rename_i xs i
    obtain ⟨p, vs, rfl, h1, r1, _⟩ := rv.tup_inv s
    cases ru.int_inv
    obtain ⟨z, e1, r2⟩ := reps_at r1 e
    exact .inr (.inl ⟨p, vs, i, z, rfl, rfl, h1, e1, k _ H G (Ext.refl s) r2⟩)
  · rename_i xs i
    obtain ⟨p, vs, rfl, h1, r1⟩ := rv.lst_inv s
    cases ru.int_inv
    obtain ⟨z, e1, r2⟩ := reps_at r1 e
    exact .inl ⟨p, vs, i, z, rfl, rfl, h1, e1, k _ H G (Ext.refl s) r2⟩
  · rename_i z i
    cases rv.str_inv
    cases ru.int_inv
    split at e
    · rename_i hz
      cases q : atI z.cps.toList i with
      | none => rw [q] at e; cases e
      | some c =>
        rw [q] at e
        cases e
        exact .inr (.inr ⟨z, i, c, rfl, rfl, hz, q, k _ H G (Ext.refl s) (.str _)⟩)
    · cases e
  · cases e
theorem ev_item (ha : Rv X a f) (hb : Rv X b g) (hs : PlainIx b := by intro _ _; rfl) : Ev X (.Subscript a b pos) (b2 f g ixD) := ev_ix ix_seq d_ix ha hb hs
end

noncomputable def lenD : List D → Option D
  | [.tup xs] => some (.int xs.length)
  | [.lst xs] => some (.int xs.length)
  | [.str z] => if z.length ≤ sizeLine then some (.int z.length) else none
  | _ => none
noncomputable def rLenD (K : PySem.W.Frag) : List V → Hp → VK → Prop := fun xs H Q => (∃ p ys, xs = [.ref p] ∧ (SqL K H p ys ∨ SqT K H p ys) ∧ Q (.int ys.length) H) ∨ (∃ z, xs = [.str z] ∧ z.length ≤ sizeLine ∧ Q (.int z.length) H)
theorem call_lenD' {X : Cx} : CallR X (.builtin "len") (rLenD X.K) := call_len_seq.or call_len_str
theorem c_len {K : PySem.W.Frag} : CallD K (rLenD K) lenD := by
  intro vs ds G H Q d s r e k
  unfold lenD at e
  split at e
  · rename_i xs
    obtain ⟨v, rfl, rv⟩ := r.one
    obtain ⟨p, us, rfl, h1, r1, _⟩ := rv.tup_inv s
    cases e
    refine .inl ⟨p, us, rfl, .inr h1, ?_⟩
    rw [r1.length]
    exact k _ H G (Ext.refl s) (.int _)
  · rename_i xs
    obtain ⟨v, rfl, rv⟩ := r.one
    obtain ⟨p, us, rfl, h1, r1⟩ := rv.lst_inv s
    cases e
    refine .inl ⟨p, us, rfl, .inl h1, ?_⟩
    rw [r1.length]
    exact k _ H G (Ext.refl s) (.int _)
  · rename_i z
    obtain ⟨v, rfl, rv⟩ := r.one
    cases rv.str_inv
    split at e
    · rename_i hz
      cases e
      exact .inr ⟨z, rfl, hz, k _ H G (Ext.refl s) (.int _)⟩
    · cases e
  · cases e
noncomputable def tupleD : List D → Option D
  | [.tup xs] => some (.tup xs)
  | [.lst xs] => some (.tup xs)
  | _ => none
theorem c_tuple {K : PySem.W.Frag} : CallD K (fun xs H Q => ∃ p ys, xs = [.ref p] ∧ ((SqL K H p ys ∧ ∀ l, H l = none → Q (.ref l) (upd H l (.tup ys))) ∨ (SqT K H p ys ∧ Q (.ref p) H))) tupleD := by
  intro vs ds G H Q d s r e k
  unfold tupleD at e
  split at e
  · rename_i xs
    obtain ⟨v, rfl, rv⟩ := r.one
    obtain ⟨p, us, rfl, h1, r1, g1⟩ := rv.tup_inv s
    cases e
    exact ⟨p, us, rfl, .inr ⟨h1, k _ H G (Ext.refl s) (.tup g1 r1)⟩⟩
  · rename_i xs
    obtain ⟨v, rfl, rv⟩ := r.one
    obtain ⟨p, us, rfl, h1, r1⟩ := rv.lst_inv s
    cases e
    refine ⟨p, us, rfl, .inl ⟨h1, fun l hl => ?_⟩⟩
    have x := Ext.new s hl (.tup us)
    exact k _ _ _ x (.tup (.inl (.inl upd_same)) (r1.mono x.gg))
  · cases e
noncomputable def listD : List D → Option (List D)
  | [.tup xs] => some xs
  | [.lst xs] => some xs
  | _ => none
noncomputable def maxD : List D → Option D
  | [.int i, .int j] => some (.int (if j > i then j else i))
  | _ => none
noncomputable def minD : List D → Option D
  | [.int i, .int j] => some (.int (if j < i then j else i))
  | _ => none
theorem c_max {K : PySem.W.Frag} : CallD K (fun xs H Q => ∃ i j, xs = [.int i, .int j] ∧ Q (.int (if j > i then j else i)) H) maxD := by
  intro vs ds G H Q d s r e k
  unfold maxD at e
  split at e
  · rename_i i j
    obtain ⟨v, u, rfl, rv, ru⟩ := r.two
    cases rv.int_inv
    cases ru.int_inv
    cases e
    exact ⟨i, j, rfl, k _ H G (Ext.refl s) (.int _)⟩
  · cases e
theorem c_min {K : PySem.W.Frag} : CallD K (fun xs H Q => ∃ i j, xs = [.int i, .int j] ∧ Q (.int (if j < i then j else i)) H) minD := by
  intro vs ds G H Q d s r e k
  unfold minD at e
  split at e
  · rename_i i j
    obtain ⟨v, u, rfl, rv, ru⟩ := r.two
    cases rv.int_inv
    cases ru.int_inv
    cases e
    exact ⟨i, j, rfl, k _ H G (Ext.refl s) (.int _)⟩
  · cases e
noncomputable def strD : List D → Option D
  | [.int i] => if i.natAbs.log2 < 1920 then some (.str (toString i)) else none
  | _ => none
section
variable {X : Cx} {e : Expr} {es : List Expr} {fs : Rho → Option (List D)} {p pos : Pos}
theorem ev_len (hg : Gl X "len") (hm : X.mg "len" = none) (ha : Ar X [e] fs) (he : starEach [e] X.env = (false, eval e X.env) :: starEach [] X.env := by exact star_cons rfl) : Ev X (.Call (.Name "len" p) [e] [] pos) (b1 fs lenD) :=
  ev_callB call_lenD' c_len hg hm PySem.boot_len ha (by decide) (by decide) he rfl
theorem ev_tuple (hg : Gl X "tuple") (hm : X.mg "tuple" = none) (ha : Ar X [e] fs) (he : starEach [e] X.env = (false, eval e X.env) :: starEach [] X.env := by exact star_cons rfl) : Ev X (.Call (.Name "tuple" p) [e] [] pos) (b1 fs tupleD) :=
  ev_callTy call_tuple_of c_tuple hg hm PyProof.Rows.boot_tuple ha (by decide) (by decide) he rfl
variable {a b : Expr}
theorem ev_max (hc : X.calm = true) (hg : Gl X "max") (hm : X.mg "max" = none) (ha : Ar X [a, b] fs) (he : starEach [a, b] X.env = (false, eval a X.env) :: starEach [b] X.env := by exact star_cons rfl) (hpl : (backTo pos (starEach [b] X.env)).any (·.1) = false := by exact star_any rfl) : Ev X (.Call (.Name "max" p) [a, b] [] pos) (b1 fs maxD) :=
  ev_callB (call_max2 hc) c_max hg hm PyProof.Rows.boot_max ha (by decide) (by decide) he hpl
theorem ev_min (hc : X.calm = true) (hg : Gl X "min") (hm : X.mg "min" = none) (ha : Ar X [a, b] fs) (he : starEach [a, b] X.env = (false, eval a X.env) :: starEach [b] X.env := by exact star_cons rfl) (hpl : (backTo pos (starEach [b] X.env)).any (·.1) = false := by exact star_any rfl) : Ev X (.Call (.Name "min" p) [a, b] [] pos) (b1 fs minD) :=
  ev_callB (call_min2 hc) c_min hg hm PyProof.Rows.boot_min ha (by decide) (by decide) he hpl
end
end PD

set_option Elab.async false
set_option linter.all false
set_option maxRecDepth 100000
namespace PD
open PySem PySem.Spec L2

inductive Out where
  | nx (ρ : Rho) | rt (d : D) | bk (ρ : Rho) | ct (ρ : Rho)
noncomputable def EndOk (K : PySem.W.Frag) (G0 H0 G : Hp) (E : Ends) : Out → Prop
  | .nx ρ => ∀ σ G' H', EnvR K G0 H0 ρ σ G' H' → Same G G' → E.nx σ H'
  | .rt d => ∀ v G' H', Ext G0 H0 G' H' → Rep K G' v d → E.rt v H'
  | .bk ρ => ∀ σ G' H', EnvR K G0 H0 ρ σ G' H' → Same G G' → E.bk σ H'
  | .ct ρ => ∀ σ G' H', EnvR K G0 H0 ρ σ G' H' → Same G G' → E.ct σ H'
theorem EndOk.mono {K : PySem.W.Frag} {G0 H0 G G1 : Hp} {E : Ends} {o : Out} (h : EndOk K G0 H0 G E o) (s : Same G G1) : EndOk K G0 H0 G1 E o := by
  cases o with
  | nx ρ => exact fun σ G' H' x q => h σ G' H' x (s.trans q)
  | rt d => exact h
  | bk ρ => exact fun σ G' H' x q => h σ G' H' x (s.trans q)
  | ct ρ => exact fun σ G' H' x q => h σ G' H' x (s.trans q)
noncomputable def TS1 (K : PySem.W.Frag) (g : Rho → Option Out) : TS := fun E σ H => ∃ ρ G0 H0 G o, EnvR K G0 H0 ρ σ G H ∧ g ρ = some o ∧ EndOk K G0 H0 G E o
noncomputable def Sv (X : Cx) (st : Stmt) (g : Rho → Option Out) : Prop := PS X st (TS1 X.K g)
noncomputable def Bv (X : Cx) (sts : List Stmt) (g : Rho → Option Out) : Prop := PSs X sts (TS1 X.K g)
theorem ps_imp {X : Cx} {st : Stmt} {t t' : TS} (h : PS X st t) (i : ∀ E σ H, t' E σ H → t E σ H) : PS X st t' := fun pins s σ H E I q => h pins s σ H E I (i E σ H q)
theorem pss_imp {X : Cx} {st : List Stmt} {t t' : TS} (h : PSs X st t) (i : ∀ E σ H, t' E σ H → t E σ H) : PSs X st t' := fun pins s σ H E I q => h pins s σ H E I (i E σ H q)

section
variable {X : Cx} {st : Stmt} {rest body : List Stmt} {g k : Rho → Option Out} {e a b : Expr} {f : Rho → Option D} {pos pos' : Pos} {i : Nat} {x : Str}
noncomputable def seqO (g k : Rho → Option Out) : Rho → Option Out := fun ρ => (g ρ).bind fun o => match o with
  | .nx ρ' => k ρ'
  | o => some o
theorem bv_nil : Bv X [] (fun ρ => some (.nx ρ)) := pss_imp pss_nil <| by
  rintro E σ H ⟨ρ, G0, H0, G, o, R, hg, k⟩
  cases hg
  exact k σ G H R (Same.refl _)
theorem bv_one (h : Sv X st g) : Bv X [st] g := pss_one h
theorem bv_cons (h : Sv X st g) (hr : Bv X rest k) : Bv X (st :: rest) (seqO g k) := pss_imp (pss_cons h hr) <| by
  rintro E σ H ⟨ρ, G0, H0, G, o, R, hg, q⟩
  obtain ⟨o1, e1, e2⟩ := bind_some' hg
  refine ⟨ρ, G0, H0, G, o1, R, e1, ?_⟩
  cases o1 with
  | nx ρ1 => exact fun σ1 G1 H1 R1 s1 => ⟨ρ1, G0, H0, G1, o, R1, e2, q.mono s1⟩
  | rt d => cases e2; exact q
  | bk ρ1 => cases e2; exact q
  | ct ρ1 => cases e2; exact q
theorem sv_ret (he : Ev X e f) : Sv X (.Return (some e) pos) (b1 f fun d => some (.rt d)) := ps_imp (ps_ret he) <| by
  rintro E σ H ⟨ρ, G0, H0, G, o, R, hg, k⟩
  obtain ⟨d, e1, e2⟩ := b1_some hg
  cases e2
  exact ⟨ρ, G0, H0, G, d, R, e1, fun v H' G' x r => k v G' H' (R.ext.trans x) r⟩
noncomputable def retO (i : Nat) (ρ : Rho) : Option Out := match ρ[i]? with
  | some (some (.ow ds)) => some (.rt (.lst ds))
  | _ => none
theorem sv_retO (hN : X.N[i]? = some x := by rfl) (hv : Vis X.env.scope x := by first | exact Or.inl rfl | exact Or.inr (Or.inl rfl) | exact Or.inr (Or.inr rfl)) (hd : (x == ("__debug__" : Str)) = false := by decide)
    (hcd : (x == ("__classdict__" : Str)) = false := by decide) : Sv X (.Return (some (.Name x pos')) pos) (retO i) := ps_imp (ps_ret (pe_var hN hv hd hcd)) <| by
  rintro E σ H ⟨ρ, G0, H0, G, o, R, hg, k⟩
  unfold retO at hg
  split at hg
  · rename_i ds q
    cases hg
    obtain ⟨a, xs, h1, h2, h3, h4, h5⟩ := R.ow i ds q
    exact ⟨.ref a, h1, k _ _ _ (R.ext.freeze h2 h4 h3) (.lst (.inl (.inl upd_same)) (h5.mono fun b o z => by rw [upd_ne (ne_of_none z h3)]; exact z))⟩
  · cases hg
theorem sv_set (i : Nat) (hN : X.N.Nodup) (he : Ev X e f) (hi : X.N[i]? = some x := by rfl) (hx : Loc X.env.scope x := by first | exact Or.inl rfl | exact Or.inr rfl) (hs : swapsWith e (some (.Name x pos')) pos.line X.env = pure false := by rfl)
    (hf : X.fn x = true ∨ X.env.scope.names.lookup x = some .local := by first | exact .inl rfl | exact .inr rfl | assumption) : Sv X (.Assign [.Name x pos'] e pos) (fun ρ => (f ρ).bind fun d => some (.nx (ρ.set i (some (.sh d))))) :=
  ps_imp (ps_set hN hi hx he hs hf) <| by
    rintro E σ H ⟨ρ, G0, H0, G, o, R, hg, k⟩
    obtain ⟨d, e1, e2⟩ := bind_some' hg
    cases e2
    exact ⟨ρ, G0, H0, G, d, R, e1, fun v H' G' x r => k _ G' H' ((R.by x).set i r) x.gg⟩
theorem setOw_of {K : PySem.W.Frag} {G0 H0 G H G' H' : Hp} {ρ : Rho} {σ : L2.St} (R : EnvR K G0 H0 ρ σ G H) (i : Nat) {a : Addr} {xs : List V} {ds : List D} (x : Ext G H G' H') (h1 : H' a = some (.lst xs)) (h2 : G' a = none) (h3 : H a = none) (r : Reps K G' xs ds) :
    EnvR K G0 H0 (ρ.set i (some (.ow ds))) (σ.set i (some (.ref a))) G' H' :=
  (R.by x).setOw i h1 h2 (R.ext.hh.free h3) r fun j es q z => by
    obtain ⟨b, ys, g1, g2, _⟩ := R.ow j es q
    rw [z] at g1
    have : a = b := by injection g1 with g1; injection g1 with g1; injection g1
    subst this
    rw [g2] at h3
    cases h3
theorem sv_own (i : Nat) {f : Rho → Option (List D)} (hN : X.N.Nodup) (he : Fv X e f) (hi : X.N[i]? = some x := by rfl) (hx : Loc X.env.scope x := by first | exact Or.inl rfl | exact Or.inr rfl) (hs : swapsWith e (some (.Name x pos')) pos.line X.env = pure false := by rfl)
    (hf : X.fn x = true ∨ X.env.scope.names.lookup x = some .local := by first | exact .inl rfl | exact .inr rfl | assumption) : Sv X (.Assign [.Name x pos'] e pos) (fun ρ => (f ρ).bind fun ds => some (.nx (ρ.set i (some (.ow ds))))) :=
  ps_imp (ps_set hN hi hx he hs hf) <| by
    rintro E σ H ⟨ρ, G0, H0, G, o, R, hg, k⟩
    obtain ⟨ds, e1, e2⟩ := bind_some' hg
    cases e2
    exact ⟨ρ, G0, H0, G, ds, R, e1, fun a xs H' G' x h1 h2 h3 r => k _ G' H' (setOw_of R i x h1 h2 h3 r) x.gg⟩
theorem sv_compO {tg iter elt : Expr} {ifs : List Expr} {scope : Scope} {py spos : Pos} {N' ns : List Str} {tgg : TG} {y : Str} {bd : D → Rho → Option Rho} {it : Rho → Option (List D)} {c : Rho → Option Bool} (i : Nat)
    (hc : X.calm = true) (S : CompScope X N' ns scope) (hi : Ir X tg iter it) (hg : BindC X.K ns.length tgg bd)
    (hb : ∀ ex s₀ H₀, PG (cxComp X N' ns scope ex s₀ H₀) tg tgg ∧ Tf (cxComp X N' ns scope ex s₀ H₀) ifs c ∧ Ev (cxComp X N' ns scope ex s₀ H₀) elt f)
    (hN : X.N.Nodup) (hy : X.N[i]? = some y := by rfl) (hl : X.env.scope.names.lookup y = some .local := by rfl)
    (hsw : swapsWith (.ListComp elt [⟨tg, iter, ifs, 0⟩] scope pos) (some (.Name y py)) spos.line X.env = pure true := by rfl)
    (hs : ∀ x, foldedSetIterable iter X.env x = pure x := by intro _; rfl) : Sv X (.Assign [.Name y py] (.ListComp elt [⟨tg, iter, ifs, 0⟩] scope pos) spos) (fun ρ => (compD it bd c f ρ).bind fun ds => some (.nx (ρ.set i (some (.ow ds))))) :=
  ps_imp (ps_comp hc S hi hb hN hy hl hsw hs) <| by
    rintro E σ H ⟨ρ, G0, H0, G, o, R, hq, k⟩
    obtain ⟨ds, e1, e2⟩ := bind_some' hq
    cases e2
    exact t_comp hg σ H _ ⟨ρ, G0, H0, G, ds, R, e1, fun a xs H' G' x h1 h2 h3 r => k _ G' H' (setOw_of R i x h1 h2 h3 r) x.gg⟩
theorem sv_compS {tg iter elt : Expr} {ifs : List Expr} {scope : Scope} {py spos : Pos} {N' ns : List Str} {tgg : TG} {y : Str} {bd : D → Rho → Option Rho} {it : Rho → Option (List D)} {c : Rho → Option Bool} (i : Nat)
    (hc : X.calm = true) (S : CompScope X N' ns scope) (hi : Ir X tg iter it) (hg : BindC X.K ns.length tgg bd)
    (hb : ∀ ex s₀ H₀, PG (cxComp X N' ns scope ex s₀ H₀) tg tgg ∧ Tf (cxComp X N' ns scope ex s₀ H₀) ifs c ∧ Ev (cxComp X N' ns scope ex s₀ H₀) elt f)
    (hN : X.N.Nodup) (hy : X.N[i]? = some y := by rfl) (hl : X.env.scope.names.lookup y = some .local := by rfl)
    (hsw : swapsWith (.ListComp elt [⟨tg, iter, ifs, 0⟩] scope pos) (some (.Name y py)) spos.line X.env = pure true := by rfl)
    (hs : ∀ x, foldedSetIterable iter X.env x = pure x := by intro _; rfl) : Sv X (.Assign [.Name y py] (.ListComp elt [⟨tg, iter, ifs, 0⟩] scope pos) spos) (fun ρ => (compD it bd c f ρ).bind fun ds => some (.nx (ρ.set i (some (.sh (.lst ds)))))) :=
  ps_imp (ps_comp hc S hi hb hN hy hl hsw hs) <| by
    rintro E σ H ⟨ρ, G0, H0, G, o, R, hq, k⟩
    obtain ⟨ds, e1, e2⟩ := bind_some' hq
    cases e2
    refine t_comp hg σ H _ ⟨ρ, G0, H0, G, ds, R, e1, fun a xs H' G' x h1 h2 h3 r => ?_⟩
    have z := x.freeze h1 h3 h2
    exact k _ _ H' ((R.by z).set i (.lst (.inl (.inl upd_same)) (r.mono fun b o q => by rw [upd_ne (ne_of_none q h2)]; exact q))) z.gg
noncomputable def iteO (p : Rho → Option Bool) (g k : Rho → Option Out) : Rho → Option Out := fun ρ => (p ρ).bind fun c => if c = true then g ρ else k ρ
theorem sv_if {c : Expr} {p : Rho → Option Bool} {s1 s2 : List Stmt} (hc : Ts X c p) (ha : Bv X s1 g) (hb : Bv X s2 k) : Sv X (.If c s1 s2 pos) (iteO p g k) := ps_imp (ps_if hc ha hb) <| by
  rintro E σ H ⟨ρ, G0, H0, G, o, R, hg, q⟩
  obtain ⟨b, e1, e2⟩ := bind_some' hg
  refine ⟨ρ, G0, H0, G, b, R, e1, fun H1 G1 x1 => ?_⟩
  cases b with
  | true =>
    rw [if_pos rfl] at e2
    exact iteT ⟨ρ, G0, H0, G1, o, R.by x1, e2, q.mono x1.gg⟩
  | false =>
    rw [if_neg Bool.false_ne_true] at e2
    exact iteF ⟨ρ, G0, H0, G1, o, R.by x1, e2, q.mono x1.gg⟩
noncomputable def appO (i : Nat) (f : Rho → Option D) (ρ : Rho) : Option Out := match ρ[i]? with
  | some (some (.ow ds)) => (f ρ).bind fun d => if ds.length < sizeLine then some (.nx (ρ.set i (some (.ow (ds ++ [d]))))) else none
  | _ => none
theorem sv_append (i : Nat) {apos cpos : Pos} (he : Ev X e f) (hi : X.N[i]? = some x := by rfl) (hv : Vis X.env.scope x := by first | exact Or.inl rfl | exact Or.inr (Or.inl rfl) | exact Or.inr (Or.inr rfl)) (hd : (x == ("__debug__" : Str)) = false := by decide)
    (hcd : (x == ("__classdict__" : Str)) = false := by decide)
    (hbase : attributeBase (.Name x pos') ("append" : Str) X.env (eval (.Name x pos') X.env) = eval (.Name x pos') X.env := by rfl)
    (hfew : ((backTo cpos (starEach [e] X.env)).all (fun x => !x.1) && (backToKw cpos (keywordEach [] X.env)).all (fun x => x.1.isSome)
      && decide ([e].length + ([] : List Keyword).length + (if ([] : List Keyword).isEmpty then 0 else 1) < 30)) = true := by rfl)
    (hline : (apos.endLine == cpos.line) = true := by rfl) (hse : starEach [e] X.env = (false, eval e X.env) :: starEach [] X.env := by exact star_cons rfl) (hplain : (backTo cpos (starEach [] X.env)).any (·.1) = false := by rfl) (hs : swapsWith (.Call (.Attribute (.Name x pos') ("append" : Str) apos) [e] [] cpos) none pos.line X.env = pure false := by rfl) :
    Sv X (.Expr (.Call (.Attribute (.Name x pos') ("append" : Str) apos) [e] [] cpos) pos) (appO i f) :=
  ps_imp (ps_expr (pe_bm PySem.F.plainAttrs_list PySem.F.slot_list_append PySem.F.type_list_append mt_append (pe_var hi hv hd hcd) (av_cons he av_nil hse) hbase hfew hline hse hplain) hs) <| by
    rintro E σ H ⟨ρ, G0, H0, G, o, R, hg, k⟩
    unfold appO at hg
    split at hg
    · rename_i ds q
      obtain ⟨d, e1, e2⟩ := bind_some' hg
      split at e2
      · rename_i hz
        cases e2
        obtain ⟨a, xs, h1, h2, h3, h4, h5⟩ := R.ow i ds q
        refine ⟨.ref a, h1, .inl ⟨rfl, xs, SqL.of h2⟩, ρ, G0, H0, G, [d], R, (by unfold cons2 b2; rw [e1]; rfl), fun vs H1 G1 x1 r1 => ?_⟩
        obtain ⟨v, rfl, rv⟩ := r1.one
        have R1 := R.by x1
        have h2' := x1.hh _ _ h2
        obtain ⟨a', xs', g1, g2, g3, g4, g5⟩ := R1.ow i ds q
        rw [h1] at g1
        have ea : a = a' := by injection g1 with g1; injection g1 with g1; injection g1
        subst ea
        rw [h2'] at g2
        have ex : xs = xs' := by injection g2 with g2; injection g2
        subst ex
        refine ⟨a, xs, v, rfl, rfl, h2', by rw [g5.length]; exact hz, ?_⟩
        exact k σ G1 _ (R1.mut q h1 h2' g3 g4 (g5.append (.cons rv .nil))) x1.gg
      · cases e2
    · cases hg
noncomputable def BindS (K : PySem.W.Frag) (g : TG) (bd : D → Rho → Option Rho) : Prop := ∀ (x : V) (d : D) (ρ ρ' : Rho) (σ : L2.St) (G0 H0 G H : Hp) (Q : L2.St → Hp → Prop), EnvR K G0 H0 ρ σ G H → Rep K G x d → bd d ρ = some ρ' →
  (∀ σ', EnvR K G0 H0 ρ' σ' G H → Q σ' H) → g x σ H Q
noncomputable def set1 (i : Nat) (d : D) (ρ : Rho) : Option Rho := some (ρ.set i (some (.sh d)))
theorem bindS1 {K : PySem.W.Frag} {i : Nat} : BindS K (gName i) (set1 i) := by
  intro x d ρ ρ' σ G0 H0 G H Q E r e k
  cases e
  exact k _ (E.set i r)
noncomputable def set2 (i j : Nat) (d : D) (ρ : Rho) : Option Rho := match d with
  | .tup [x, y] => some ((ρ.set i (some (.sh x))).set j (some (.sh y)))
  | _ => none
theorem bindS2 {K : PySem.W.Frag} {i j : Nat} : BindS K (gTup K 2 (gCons (gName i) (gCons (gName j) gNil))) (set2 i j) := by
  intro x d ρ ρ' σ G0 H0 G H Q E r e k
  unfold set2 at e
  split at e
  · rename_i y z
    cases e
    obtain ⟨a, xs, rfl, h1, h2, _⟩ := Rep.tup_inv (H := H) E.gh r
    obtain ⟨v, u, rfl, r1, r2⟩ := h2.two
    exact ⟨a, [v, u], rfl, h1, rfl, v, [u], rfl, u, [], rfl, rfl, k _ ((E.set i r1).set j r2)⟩
  · cases e
noncomputable def forG (bd : D → Rho → Option Rho) (g : Rho → Option Out) : List D → Rho → Option Out
  | [], ρ => some (.nx ρ)
  | d :: ds, ρ => (bd d ρ).bind fun ρ' => (g ρ').bind fun o => match o with
    | .nx ρ1 => forG bd g ds ρ1
    | .ct ρ1 => forG bd g ds ρ1
    | .bk ρ1 => some (.nx ρ1)
    | .rt d => some (.rt d)
noncomputable def forD (it : Rho → Option (List D)) (bd : D → Rho → Option Rho) (g : Rho → Option Out) : Rho → Option Out := fun ρ => (it ρ).bind fun ds => forG bd g ds ρ
theorem sv_for {tg iter : Expr} {it : Rho → Option (List D)} {tgg : TG} {bd : D → Rho → Option Rho} (hp : PassesOwn (model X.prog X.w) X.A X.env X.xe) (hc : X.calm = true) (hi : Iv X tg iter it) (hg : PG X tg tgg) (hbd : BindS X.K tgg bd) (hb : Bv X body g)
    (hs : ∀ x, foldedSetIterable iter X.env x = pure x := by intro _; rfl) : Sv X (.For tg iter body [] pos) (forD it bd g) := ps_imp (ps_for hp hc hi hg hb hs) <| by
  rintro E σ H ⟨ρ, G0, H0, G, o, R, hq, k⟩
  obtain ⟨ds, e1, e2⟩ := bind_some' hq
  refine ⟨ρ, G0, H0, G, ds, R, e1, fun J H1 G1 x1 hJ => ?_⟩
  refine ⟨fun i m σ2 H2 => m = ds.length - i ∧ i ≤ ds.length ∧ ∃ ρ2 G2, EnvR X.K G0 H0 ρ2 σ2 G2 H2 ∧ Same G1 G2 ∧ forG bd g (ds.drop i) ρ2 = some o, ⟨ds.length, by simp, Nat.zero_le _, ρ, G1, R.by x1, Same.refl _, by simpa using e2⟩, ?_⟩
  rintro i m σ2 H2 ⟨rfl, hi, ρ2, G2, R2, s2, hf⟩
  have sB : Same G1 H2 := s2.trans R2.gh
  by_cases hlt : i < ds.length
  · refine .inr ⟨hJ.go i H2 sB hlt, fun σ' H' => i + 1 ≤ ds.length ∧ ∃ ρ2 G2, EnvR X.K G0 H0 ρ2 σ' G2 H' ∧ Same G1 G2 ∧ forG bd g (ds.drop (i + 1)) ρ2 = some o, fun σ' H' q => ⟨ds.length - (i + 1), by omega, rfl, q.1, q.2⟩, fun y H3 hy => ?_⟩
    obtain ⟨G3, d, x3, hd, rd⟩ := hJ.yld i H2 y H3 G2 sB s2 R2.gh hlt hy
    have ed : ds.drop i = d :: ds.drop (i + 1) := by
      have : ds[i] = d := by rw [List.getElem?_eq_getElem hlt] at hd; exact Option.some.inj hd
      rw [List.drop_eq_getElem_cons hlt, this]
    rw [ed] at hf
    obtain ⟨ρ3, hb3, hf⟩ := bind_some' (show (bd d ρ2).bind _ = some o from hf)
    obtain ⟨o3, ho3, hf⟩ := bind_some' hf
    have s3 := s2.trans x3.gg
    refine hbd y d ρ2 ρ3 σ2 G0 H0 G3 H3 _ (R2.by x3) rd hb3 fun σ4 R4 => ?_
    refine ⟨ρ3, G0, H0, G3, o3, R4, ho3, ?_⟩
    cases o3 with
    | nx ρ5 => exact fun σ5 G5 H5 R5 s5 => ⟨hlt, ρ5, G5, R5, s3.trans s5, hf⟩
    | ct ρ5 => exact fun σ5 G5 H5 R5 s5 => ⟨hlt, ρ5, G5, R5, s3.trans s5, hf⟩
    | bk ρ5 =>
      cases hf
      exact fun σ5 G5 H5 R5 s5 => k σ5 G5 H5 R5 (x1.gg.trans (s3.trans s5))
    | rt d =>
      cases hf
      exact k
  · have e : i = ds.length := by omega
    subst e
    rw [List.drop_of_length_le (Nat.le_refl _)] at hf
    cases hf
    exact .inl ⟨hJ.stop H2 sB, k σ2 G2 H2 R2 (x1.gg.trans s2)⟩
noncomputable def whileD (n : Nat) (p : Rho → Option Bool) (g : Rho → Option Out) : Rho → Option Out := fun ρ => match n with
  | 0 => none
  | n + 1 => (p ρ).bind fun c => if c = true then (g ρ).bind fun o => match o with
      | .nx ρ1 => whileD n p g ρ1
      | .ct ρ1 => whileD n p g ρ1
      | .bk ρ1 => some (.nx ρ1)
      | .rt d => some (.rt d)
    else some (.nx ρ)
theorem sv_while (n : Nat) {c : Expr} {p : Rho → Option Bool} (hp : PassesOwn (model X.prog X.w) X.A X.env X.xe) (hc : Ts X c p) (hb : Bv X body g) : Sv X (.While c body [] pos) (whileD n p g) := ps_imp (ps_while hp hc hb) <| by
  rintro E σ H ⟨ρ, G0, H0, G, o, R, hq, k⟩
  refine ⟨fun m σ2 H2 => ∃ ρ2 G2, EnvR X.K G0 H0 ρ2 σ2 G2 H2 ∧ Same G G2 ∧ whileD m p g ρ2 = some o, ⟨n, ρ, G, R, Same.refl _, hq⟩, ?_⟩
  rintro m σ2 H2 ⟨ρ2, G2, R2, s2, hf⟩
  cases m with
  | zero => cases hf
  | succ m =>
    obtain ⟨b, e1, e2⟩ := bind_some' (show (p ρ2).bind _ = some o from hf)
    refine ⟨ρ2, G0, H0, G2, b, R2, e1, fun H3 G3 x3 => ?_⟩
    cases b with
    | false =>
      rw [if_neg Bool.false_ne_true] at e2
      cases e2
      exact iteF (k σ2 G3 H3 (R2.by x3) (s2.trans x3.gg))
    | true =>
      rw [if_pos rfl] at e2
      obtain ⟨o3, ho3, e3⟩ := bind_some' e2
      refine iteT ⟨fun σ' H' => ∃ ρ2 G2, EnvR X.K G0 H0 ρ2 σ' G2 H' ∧ Same G G2 ∧ whileD m p g ρ2 = some o, fun σ' H' q => ⟨m, Nat.lt_succ_self _, q⟩, ρ2, G0, H0, G3, o3, R2.by x3, ho3, ?_⟩
      have s3 := s2.trans x3.gg
      cases o3 with
      | nx ρ5 => exact fun σ5 G5 H5 R5 s5 => ⟨ρ5, G5, R5, s3.trans s5, e3⟩
      | ct ρ5 => exact fun σ5 G5 H5 R5 s5 => ⟨ρ5, G5, R5, s3.trans s5, e3⟩
      | bk ρ5 =>
        cases e3
        exact fun σ5 G5 H5 R5 s5 => k σ5 G5 H5 R5 (s3.trans s5)
      | rt d =>
        cases e3
        exact k
end

noncomputable def spD (K : PySem.W.Frag) (n : Nat) (F : List D → Option D) : Sp := fun vs H Q _ => ∃ G ds d, Same G H ∧ Reps K G vs ds ∧ ds.length = n ∧ F ds = some d ∧ ∀ v H' G', Ext G H G' H' → Rep K G' v d → Q v H'
set_option genSizeOf false in
set_option genInjectivity false in
structure FnD (P : Program) (w : World) (K : PySem.W.Frag) (mg : Str → Option Value) (base : Heap) (k : Nat) (x : Str) (ps : List Str) (F : List D → Option D) : Prop where
  ok : ∃ (f : Addr) (fd : FuncData), FnOk P w K mg base CX0 k f fd ps (spD K ps.length F) ∧ mg x = some (.ref f) ∧ PySem.W.keepIn K (.ref f) = true ∧ Binds K fd ps []
  len : ∀ ds d, F ds = some d → ds.length = ps.length
section
variable {X : Cx} {x : Str} {p pos : Pos} {e : Expr} {es : List Expr} {k : Nat} {ps : List Str} {F : List D → Option D} {fs : Rho → Option (List D)}
theorem ev_call (h : FnD X.prog X.w X.K X.mg X.base k x ps F) (hr : Room k X.A) (ha : Av X (e :: es) fs) (hg : Gl X x := by rfl) (hdb : (x == ("__debug__" : Str)) = false := by decide) (he : starEach (e :: es) X.env = (false, eval e X.env) :: starEach es X.env := by exact star_cons rfl) (hpl : (backTo pos (starEach es X.env)).any (·.1) = false := by exact star_any rfl) :
    Ev X (.Call (.Name x p) (e :: es) [] pos) (b1 fs F) := by
  obtain ⟨f, fd, h1, h2, h3, h4⟩ := h.ok
  refine pe_imp (pe_call h1 hr hg h2 h3 h4 .nil pass0 ha hdb he hpl) ?_
  rintro σ H Q ⟨ρ, G0, H0, G, d, E, hf, k⟩
  obtain ⟨ds, e1, e2⟩ := b1_some hf
  refine ⟨ρ, G0, H0, G, ds, E, e1, fun vs H1 G1 x1 r1 => ?_⟩
  exact ⟨G1, ds, d, x1.gh, by rw [List.append_nil]; exact r1, h.len ds d e2, e2, fun v H' G' x2 r2 => k v H' G' (x1.trans x2) r2⟩
end
noncomputable def startR (n : Nat) (ds : List D) : Rho := ds.map (fun d => some (.sh d)) ++ List.replicate (n - ds.length) none
theorem getElem_map_some {α β : Type} {f : α → β} {l : List α} {i : Nat} {y : β} (h : (l.map f)[i]? = some y) : ∃ x, l[i]? = some x ∧ f x = y := by
  rw [List.getElem?_map] at h
  cases e : l[i]? with
  | none => rw [e] at h; cases h
  | some x => rw [e] at h; exact ⟨x, rfl, Option.some.inj h⟩
theorem env_start {K : PySem.W.Frag} {N : List Str} {vs : List V} {ds : List D} {G H : Hp} (gh : Same G H) (r : Reps K G vs ds) (hl : ds.length ≤ N.length) : EnvR K G H (startR N.length ds) (L2.start N vs) G H where
  ext := Ext.refl gh
  len := by
    unfold startR L2.start
    simp [r.length]
  sh := fun i d q => by
    unfold startR at q
    by_cases hi : i < ds.length
    · rw [List.getElem?_append_left (by simpa using hi)] at q
      obtain ⟨d', e1, e2⟩ := getElem_map_some q
      cases e2
      obtain ⟨v, h1, h2⟩ := r.get e1
      refine ⟨v, ?_, h2⟩
      unfold L2.start
      rw [List.getElem?_append_left (by simp [r.length]; exact hi), List.getElem?_map, h1]
      rfl
    · rw [List.getElem?_append_right (by simpa using hi), List.getElem?_replicate] at q
      split at q <;> cases q
  ow := fun i d q => by
    unfold startR at q
    by_cases hi : i < ds.length
    · rw [List.getElem?_append_left (by simpa using hi)] at q
      obtain ⟨d', e1, e2⟩ := getElem_map_some q
      cases e2
    · rw [List.getElem?_append_right (by simpa using hi), List.getElem?_replicate] at q
      split at q <;> cases q
  ne := fun i j d d' hij q _ => by
    unfold startR at q
    by_cases hi : i < ds.length
    · rw [List.getElem?_append_left (by simpa using hi)] at q
      obtain ⟨d', e1, e2⟩ := getElem_map_some q
      cases e2
    · rw [List.getElem?_append_right (by simpa using hi), List.getElem?_replicate] at q
      split at q <;> cases q
noncomputable def outD : Out → Option D
  | .rt d => some d
  | .nx _ => some .non
  | _ => none
section
variable {P : Program} {w : World} {K : PySem.W.Frag} {mg : Str → Option Value} {base : Heap}
theorem fn_body {x qual : Str} {st : Stmt} {f : Addr} {fd : FuncData} {N ps : List Str} {k : Nat} {F : List D → Option D} {g : Rho → Option Out} (Fn : Fun K x qual st f fd) (S : FnScope N ps (defScope st)) (hm : mg x = some (.ref f)) (hB : Binds K fd ps [])
    (hbody : ∀ (cdv : Value) (A : Around) (outer : List Env) (s : Shared) (H : Hp) (E : XK), Room k (A.deeper (PyProof.Rows.envOfC qual (defScope st) s.heap.objs.size f cdv)) →
      Bv (cxOf CX0 P w K mg base N qual (defScope st) f cdv A outer s H E).nox (defBody st) g)
    (hF : ∀ ds d, F ds = some d → ds.length = ps.length ∧ (g (startR N.length ds)).bind outD = some d) : FnD P w K mg base (k + 1) x ps F := by
  refine ⟨⟨f, fd, Fn.ok S (fun vs H Q E h => ?_) (fun cdv A outer s H vs Q E hr h => ?_), hm, Fn.kp, hB⟩, fun ds d e => (hF ds d e).1⟩
  · obtain ⟨G, ds, d, _, r, hl, _⟩ := h
    rw [r.length]
    exact hl
  · obtain ⟨G, ds, d, gh, r, hl, e, q⟩ := h
    refine ⟨_, hbody cdv A outer s H E hr, ?_⟩
    obtain ⟨_, e2⟩ := hF ds d e
    obtain ⟨o, e3, e4⟩ := bind_some' e2
    have hpl : ps.length ≤ N.length := by have := congrArg List.length S.pre; rw [List.length_take] at this; omega
    refine ⟨startR N.length ds, G, H, G, o, env_start gh r (by first | assumption | exact Nat.le_of_lt ‹_› | omega), e3, ?_⟩
    cases o with
    | nx ρ =>
      cases e4
      exact fun σ G' H' R s => q .non H' G' R.ext .non
    | rt d' =>
      cases e4
      exact fun v G' H' x r => q v H' G' x r
    | bk ρ => cases e4
    | ct ρ => cases e4
end
end PD

set_option Elab.async false
set_option linter.all false
set_option maxRecDepth 100000
namespace PD
open PySem PySem.Spec L2

noncomputable def tyN : D → String
  | .non => "NoneType"
  | .bl _ => "bool"
  | .int _ => "int"
  | .str _ => "str"
  | .tup _ => "tuple"
  | .lst _ => "list"
theorem isinst_sit {X : Cx} {pins : List (Addr × Obj)} {σ : L2.St} {H : Hp} {s : Shared} {A : Around} {E : Value → Shared → Prop} {Q : Value → Shared → Prop} {c u : Value} {b : Bool} {d : D} (I : Inv X pins σ H s) (su : Sit s.heap u d)
    (e : PySem.W.kitOne X.K (.type (tyN d)) c = some b) (h : ∀ tk, Q (.bool b) { s with toks := tk }) : wpAny (model X.prog X.w) A (call (.builtin "isinstance") [u, c]) Q E s := by
  cases su with
  | non => exact PySem.W.kia_one PySem.W.kitx_none I.kIn True.intro e (fun z => nomatch z) h
  | bl y => exact PySem.W.kia_one PySem.W.kitx_bool I.kIn True.intro e (fun z => nomatch z) h
  | int i t => exact PySem.W.kia_one PySem.W.kitx_int I.kIn True.intro e (fun z => nomatch z) h
  | str y t => exact PySem.W.kia_one PySem.W.kitx_str I.kIn True.intro e (fun z => nomatch z) h
  | lst p r => obtain ⟨o, h1, h2, _⟩ := p; exact PySem.W.kia_one PySem.W.kitx_list I.kIn ⟨o, h1, h2⟩ e (fun z => nomatch z) h
  | tup p r => obtain ⟨o, h1, h2, _⟩ := p; exact PySem.W.kia_one PySem.W.kitx_tuple I.kIn ⟨o, h1, h2⟩ e (fun z => nomatch z) h
inductive Kd where
  | int | bool | str | tuple | list
noncomputable def Kd.ty : Kd → String
  | .int => "int"
  | .bool => "bool"
  | .str => "str"
  | .tuple => "tuple"
  | .list => "list"
noncomputable def instB : Kd → D → Bool
  | .int, .int _ => true
  | .int, .bl _ => true
  | .bool, .bl _ => true
  | .str, .str _ => true
  | .tuple, .tup _ => true
  | .list, .lst _ => true
  | _, _ => false
theorem kit_inst (K : PySem.W.Frag) (k : Kd) (d : D) : PySem.W.kitOne K (.type (tyN d)) (.type k.ty) = some (instB k d) := by
  cases k <;> cases d <;> rfl
theorem call_isinst {X : Cx} (k : Kd) : CallR X (.builtin "isinstance") (fun xs H Q => ∃ v G d, xs = [v, .ty k.ty] ∧ Same G H ∧ RepP X.K G H v d ∧ Q (.bl (instB k d)) H) := by
  intro pins s σ H xs us Q I r h
  obtain ⟨v, G, d, rfl, gh, rp, q⟩ := h
  obtain ⟨u, z, rfl, ru, rz⟩ := vals2 r
  cases (show z = Value.type k.ty from rz)
  exact isinst_sit I (sit_ofP I gh rp ru) (kit_inst X.K k d) fun tk => ⟨.bl _, H, I.tok tk, rfl, q⟩
section
variable {X : Cx} {e a b : Expr} {es : List Expr} {f g : Rho → Option D} {fs : Rho → Option (List D)} {p p2 pos : Pos}
theorem ev_inst (k : Kd) {y : Str} (hg : Gl X "isinstance") (hm : X.mg "isinstance" = none) (hg2 : Gl X y) (hm2 : X.mg y = none) (hv2 : bootBuiltins y = some (.type k.ty)) (hn2 : y ≠ "__name__") (hd2 : (y == ("__debug__" : Str)) = false) (he : Rv X e f)
    (hs : starEach [e, .Name y p2] X.env = (false, eval e X.env) :: starEach [.Name y p2] X.env := by exact star_cons rfl) (hs2 : starEach [.Name y p2] X.env = (false, eval (.Name y p2) X.env) :: starEach [] X.env := by rfl) (hpl : (backTo pos (starEach [.Name y p2] X.env)).any (·.1) = false := by exact star_any rfl) :
    Ev X (.Call (.Name "isinstance" p) [e, .Name y p2] [] pos) (b1 f fun d => some (.bl (instB k d))) :=
  pe_imp (pe_callB (call_isinst k) hg hm PyProof.Rows.boot_isinstance (pa_cons he (pa_cons (pe_bltn (v := .ty k.ty) hg2 hm2 hv2 rfl hn2 hd2) pa_nil hs2) hs) (by decide) (by decide) hs hpl) <| by
    rintro σ H Q ⟨ρ, G0, H0, G, d, E, hf, k'⟩
    obtain ⟨x, e1, e2⟩ := b1_some hf
    cases e2
    exact ⟨ρ, G0, H0, G, x, E, e1, fun v H1 G1 x1 r1 => ⟨v, G1, x, rfl, x1.gh, r1, k' _ H1 G1 x1 (.bl _)⟩⟩

noncomputable def bools : List D → Option (List Bool)
  | [] => some []
  | .bl b :: ds => (bools ds).bind fun bs => some (b :: bs)
  | _ => none
noncomputable def allD : List D → Option D
  | [.lst ds] => (bools ds).bind fun bs => some (.bl (bs.all id))
  | [.tup ds] => (bools ds).bind fun bs => some (.bl (bs.all id))
  | _ => none
theorem bools_vals {K : PySem.W.Frag} {G : Hp} {ds : List D} : ∀ {bs : List Bool} {vs : List V} {us : List Value}, bools ds = some bs → Reps K G vs ds → Vals vs us → us = bs.map Value.bool := by
  induction ds with
  | nil => intro bs vs us h r v; cases r; cases v; cases h; rfl
  | cons d ds ih =>
    intro bs vs us h r v
    cases r with
    | cons r rs =>
      cases v with
      | cons t ts =>
        cases d with
        | bl b =>
          obtain ⟨bs', h1, h2⟩ := bind_some' (show (bools ds).bind _ = some bs from h)
          cases h2
          cases r
          cases (show _ = Value.bool b from t)
          rw [List.map_cons, ih h1 rs ts]
        | _ => cases h
theorem range_all (bs : List Bool) : (List.range bs.length).all (fun i => bs.getD i false) = bs.all id := by
  induction bs with
  | nil => rfl
  | cons b bs ih =>
    rw [List.length_cons, all_shift]
    simp only [List.getD_cons_zero, List.getD_cons_succ, ih, List.all_cons, id]
theorem truth_bools {prog : Program} {w : World} {A : Around} (bs : List Bool) : TruthOf prog w A (fun i v => (bs.map Value.bool).toArray[i]? = some v) (fun i => bs.getD i false) := by
  intro i v s Q E hP hQ
  simp only [List.getElem?_toArray, List.getElem?_map] at hP
  cases q : bs[i]? with
  | none => rw [q] at hP; cases hP
  | some b =>
    rw [q] at hP
    cases hP
    have : bs.getD i false = b := by simp [List.getD, q]
    dsimp only at hQ
    rw [this] at hQ
    exact wpAny_truthy_bool hQ
theorem all_run {A : Around} {pins : List (Addr × Obj)} {σ : L2.St} {H : Hp} {s : Shared} {E : Value → Shared → Prop} {a : Addr} {bs : List Bool} {Q : VK} (hh : A.handled = none) (I : Inv X pins σ H s)
    (hl : s.heap.IsList a (bs.map Value.bool).toArray ∨ s.heap.IsTuple a (bs.map Value.bool).toArray) (q : Q (.bl (bs.all id)) H) : wpAny (model X.prog X.w) A (call (.builtin "all") [.ref a]) (EP X pins σ Q) E s := by
  refine call_all_walk ?_
  have hne : a ≠ s.heap.objs.size := by
    rcases hl with ⟨o, e, _⟩ | ⟨o, e, _⟩ <;> exact Nat.ne_of_lt (Heap.lt_size e)
  have fin : ∀ (h' : Heap) (tk : Nat) (o : Obj), (∀ b ob, b ∉ [s.heap.objs.size] → (s.heap.push o).get? b = some ob → h'.get? b = some ob) → EP X pins σ Q (.bool ((List.range (bs.map Value.bool).toArray.size).all fun i => bs.getD i false)) { s with heap := h', toks := tk } := fun h' tk o hk => by
    have e : (List.range (bs.map Value.bool).toArray.size).all (fun i => bs.getD i false) = bs.all id := by
      rw [List.size_toArray, List.length_map]
      exact range_all bs
    rw [e]
    exact ⟨.bl _, H, I.kept (t' := tk) fun b ob z => hk b ob (by simpa using Nat.ne_of_lt (Heap.lt_size z)) (Heap.get?_push_of_some _ z), rfl, q⟩
  rcases hl with hl | hl
  · refine wpAny_pyIter_list hl ?_
    obtain ⟨o, e, r⟩ := hl
    exact ⟨s.heap.objs.size, _, _, _, _, _, fun i => bs.getD i false, rfl, Walks.list (A := A.in1) hh s.heap.objs.size a hne (bs.map Value.bool).toArray, And.intro ⟨_, Heap.get?_push_size _ rfl, rfl, rfl⟩ ⟨o, Heap.get?_push_of_some _ e, r⟩, truth_bools bs, fun h' tk hk => fin h' tk _ hk⟩
  · refine wpAny_pyIter_tuple hl ?_
    obtain ⟨o, e, r⟩ := hl
    exact ⟨s.heap.objs.size, _, _, _, _, _, fun i => bs.getD i false, rfl, Walks.tuple (A := A.in1) hh s.heap.objs.size a hne (bs.map Value.bool).toArray, And.intro ⟨_, Heap.get?_push_size _ rfl, rfl, rfl⟩ ⟨o, Heap.get?_push_of_some _ e, r⟩, truth_bools bs, fun h' tk hk => fin h' tk _ hk⟩
noncomputable def rBools (K : PySem.W.Frag) (fn : List Bool → Bool) : List V → Hp → VK → Prop := fun xs H Q => ∃ v G ds bs, xs = [v] ∧ Same G H ∧ (RepP K G H v (.lst ds) ∨ RepP K G H v (.tup ds)) ∧ bools ds = some bs ∧ Q (.bl (fn bs)) H
theorem bools_at {pins : List (Addr × Obj)} {σ : L2.St} {G H : Hp} {s : Shared} {v : V} {u : Value} {ds : List D} {bs : List Bool} (I : Inv X pins σ H s) (gh : Same G H) (r : RepP X.K G H v (.lst ds) ∨ RepP X.K G H v (.tup ds)) (ru : RelV v u) (hb : bools ds = some bs) :
    ∃ a, u = .ref a ∧ (s.heap.IsList a (bs.map Value.bool).toArray ∨ s.heap.IsTuple a (bs.map Value.bool).toArray) := by
  rcases r with r | r
  · obtain ⟨a, xs, rfl, h1, h2⟩ := r.lst_inv gh
    cases (show u = Value.ref a from ru)
    obtain ⟨its, rv, pl, _⟩ := I.list h1
    have e := bools_vals hb h2 rv
    subst e
    exact ⟨a, rfl, .inl pl.isList⟩
  · obtain ⟨a, xs, rfl, h1, h2, _⟩ := r.tup_inv gh
    cases (show u = Value.ref a from ru)
    obtain ⟨its, rv, pl, _⟩ := I.tuple h1
    have e := bools_vals hb h2 rv
    subst e
    exact ⟨a, rfl, .inr pl⟩
theorem call_all (hc : X.calm = true) : CallR X (.builtin "all") (rBools X.K fun bs => bs.all id) := by
  intro pins s σ H xs us Q I r h
  obtain ⟨v, G, ds, bs, rfl, gh, rp, hb, q⟩ := h
  obtain ⟨u, rfl, ru⟩ := vals1 r
  obtain ⟨a, rfl, hl⟩ := bools_at I gh rp ru hb
  exact all_run (I.ok.hd hc) I hl q
theorem c_all {K : PySem.W.Frag} : CallD K (rBools K fun bs => bs.all id) allD := by
  intro vs ds G H Q d s r e k
  unfold allD at e
  split at e
  · rename_i xs
    obtain ⟨v, rfl, rv⟩ := r.one
    obtain ⟨bs, e1, e2⟩ := bind_some' e
    cases e2
    exact ⟨v, G, xs, bs, rfl, s, .inl rv, e1, k _ H G (Ext.refl s) (.bl _)⟩
  · rename_i xs
    obtain ⟨v, rfl, rv⟩ := r.one
    obtain ⟨bs, e1, e2⟩ := bind_some' e
    cases e2
    exact ⟨v, G, xs, bs, rfl, s, .inr rv, e1, k _ H G (Ext.refl s) (.bl _)⟩
  · cases e
theorem ev_all (hc : X.calm = true) (hg : Gl X "all") (hm : X.mg "all" = none) (ha : Ar X [e] fs) (he : starEach [e] X.env = (false, eval e X.env) :: starEach [] X.env := by exact star_cons rfl) : Ev X (.Call (.Name "all" p) [e] [] pos) (b1 fs allD) :=
  ev_callB (call_all hc) c_all hg hm PyProof.Rows.boot_all ha (by decide) (by decide) he rfl
end
end PD

set_option Elab.async false
set_option linter.all false
set_option maxRecDepth 100000
namespace PD
open PySem PySem.Spec L2
open AutoSeq1 (wpAny_loadPart')

theorem noFill_tuple_mul : fillsNumberSlot (.type "tuple") "mul" = pure false :=
  fillsNumberSlot_seq (id := "tuple.__mul__") (r := some (.builtin "tuple.__rmul__")) F.slot_tuple_mul.lookup (by decide +kernel) F.slot_tuple_rmul.lookup (by decide +kernel)
theorem repeat_tuple : seqRepeat? (.type "tuple") = pure (some (.builtin "tuple.__mul__")) := by
  unfold seqRepeat?
  rw [seqSlot_of (T := "tuple") (name := "__mul__") (id := "tuple.__mul__") F.slot_tuple_mul.lookup (by decide +kernel), seqSlot_of (T := "tuple") (name := "__rmul__") (id := "tuple.__rmul__") F.slot_tuple_rmul.lookup (by decide +kernel)]
  rfl
theorem int_rmul_tuple (a : Int) (t : Tok) (l : Addr) (items : Array Value) (n : Nat) (dd : Option Addr) (sl : Array (Option Value)) :
    Meets (Builtin.«int.__rmul__» ⟨[.int a t, .ref l], []⟩) (fun _ R s => s.heap.get? l = some { cls := .type "tuple", dict := dd, data := .seq items n, slots := sl } ∧ R (.ok (.ret .notImplemented)) s) :=
  .of_wp fun prog w A R s h => by obtain ⟨hp, g, d, tk, os⟩ := s; obtain ⟨hl, h⟩ := h; wp_walk using wpAny_loadPart' hl; exact ⟨_, rfl, h⟩
theorem tuple_mul (l : Addr) (items : Array Value) (n : Nat) (dd : Option Addr) (sl : Array (Option Value)) (k : Int) (u : Tok) (h0 : items.isEmpty = false) (h2 : 2 ≤ k) (hk : k < 2 ^ 63) (hz : items.size * k.toNat ≤ sizeLine) :
    Meets (Builtin.«tuple.__mul__» ⟨[.ref l, .int k u], []⟩) (fun _ R s => s.heap.get? l = some { cls := .type "tuple", dict := dd, data := .seq items n, slots := sl } ∧
      R (.ok (.ret (.ref s.heap.objs.size))) { s with heap := s.heap.push { cls := .type "tuple", data := .seq ((List.replicate k.toNat items).foldl (· ++ ·) #[]) } }) :=
  .of_wp fun prog w A R s h => by
    obtain ⟨hp, g, d, tk, os⟩ := s; obtain ⟨hl, h⟩ := h
    have ek : k = (k.toNat : Int) := by omega
    have ez : (items.size : Int) * k ≤ 16777216 := by
      rw [sizeLine_eq] at hz
      have q : ((items.size * k.toNat : Nat) : Int) = (items.size : Int) * (k.toNat : Int) := Int.natCast_mul ..
      rw [ek, ← q]
      omega
    have c1 : ¬ (decide (k < -2 ^ 63) || decide (k ≥ 2 ^ 63)) = true := by simp; omega
    have c2 : ¬ (items.isEmpty || k == 1) = true := by rw [h0]; simp; omega
    have c3 : ¬ (decide (k ≤ 0) || items.isEmpty) = true := by rw [h0]; simp; omega
    have c4 : ¬ (items.size : Int) * k > (2 ^ 63 - 1) / 8 := by omega
    have c5 : ¬ Builtin.Tuple.tupleTooMany ((items.size : Int) * k) = true := by
      unfold Builtin.Tuple.tupleTooMany
      rw [sizeLine_eq]
      simp
      omega
    have c6 : ((List.replicate k.toNat items).foldl (· ++ ·) #[]).size ≤ sizeLine := by
      have e := foldl_rep items.toList k.toNat []
      simp only [List.nil_append] at e
      have e2 : (List.foldl (fun x1 x2 => x1 ++ x2) #[] (List.replicate k.toNat items)) = (List.replicate k.toNat items.toList).flatten.toArray := by
        simpa using e
      rw [e2, List.size_toArray, len_rep, Array.length_toList, Nat.mul_comm]
      exact hz
    clear ek ez h2 hk hz h0
    wp_walk using wpAny_loadPart' hl
    refine wpAny_ite_split (fun hh => absurd hh c1) (fun _ => ?_)
    wp_walk using wpAny_loadPart' hl
    refine wpAny_ite_split (fun hh => absurd hh c4) (fun _ => ?_)
    wp_walk using wpAny_loadPart' hl
    exact ⟨_, rfl, h⟩
theorem tuple_mul1 (l : Addr) (items : Array Value) (n : Nat) (dd : Option Addr) (sl : Array (Option Value)) (u : Tok) (h0 : items.isEmpty = false) :
    Meets (Builtin.«tuple.__mul__» ⟨[.ref l, .int 1 u], []⟩) (fun _ R s => s.heap.get? l = some { cls := .type "tuple", dict := dd, data := .seq items n, slots := sl } ∧ R (.ok (.ret (.ref l))) s) :=
  .of_wp fun prog w A R s h => by
    obtain ⟨hp, g, d, tk, os⟩ := s; obtain ⟨hl, h⟩ := h
    wp_walk using wpAny_loadPart' hl
    exact ⟨_, rfl, h⟩
noncomputable def rMulU (K : PySem.W.Frag) : R2 := fun x y H Q => ∃ l xs, x = .ref l ∧ y = .int 1 ∧ SqT K H l xs ∧ xs ≠ [] ∧ Q (.ref l) H
noncomputable def rMulT (K : PySem.W.Frag) : R2 := fun x y H Q => ∃ l k xs, x = .ref l ∧ y = .int k ∧ SqT K H l xs ∧ xs ≠ [] ∧ 2 ≤ k ∧ k < 2 ^ 63 ∧ xs.length * k.toNat ≤ sizeLine ∧
  ∀ p, H p = none → Q (.ref p) (upd H p (.tup (List.replicate k.toNat xs).flatten))
section
variable {X : Cx}
theorem op_mulT : OpR X (binaryOp .Mult) (rMulT X.K) := by
  intro pins s σ H x y v u Q I rx ry h
  obtain ⟨l, k, xs, rfl, rfl, hH, hne, h1, h2, hz, q⟩ := h
  cases rx
  obtain ⟨t, rfl⟩ := ry
  obtain ⟨its, r, pt, _⟩ := I.tuple hH
  have hl := r.length
  obtain ⟨⟨cls, dd, data, sl⟩, e, hc, n, hd⟩ := id pt
  simp only at hc hd
  subst hc hd
  have h0 : its.toArray.isEmpty = false := by
    cases its with
    | nil => cases r; exact absurd rfl hne
    | cons a b => rfl
  have hlen : its.toArray.size * k.toNat ≤ sizeLine := by rw [List.size_toArray, ← hl]; exact hz
  have hnew : List.foldl (fun x1 x2 => x1 ++ x2) #[] (List.replicate k.toNat its.toArray) = (List.replicate k.toNat its).flatten.toArray := by
    have := foldl_rep its k.toNat []
    rw [List.nil_append] at this
    exact this
  refine wpAny_binaryOp_repeat_ref (T := "tuple") (U := "int") (by decide) ⟨_, e, rfl⟩ (fun s' => typeIs_int s' k t) noFill_tuple_mul F.fills_int_mul F.slot_int_rmul repeat_tuple F.slot_int_index.lookup
    (call_meets F.slot_int_rmul (typeIs_int s k t) F.entry_int_rmul (F.args_int_rmul_2 _ _) (int_rmul_tuple k t l its.toArray n dd sl)
      ⟨e, rfl, ⟨_, e, rfl⟩, call_meets F.slot_tuple_mul ⟨_, e, rfl⟩ F.entry_tuple_mul (F.args_tuple_mul_2 _ _) (tuple_mul l its.toArray n dd sl k t h0 h1 h2 hlen) ⟨e, ?_⟩⟩)
  rw [hnew]
  have z : (List.replicate k.toNat xs).flatten.length ≤ sizeLine := by rw [len_rep, Nat.mul_comm]; exact hz
  exact ⟨.ref _, _, I.laid (t' := s.toks) (o := .tup (List.replicate k.toNat xs).flatten) (fun b ob q => Heap.get?_push_of_some _ q) (Nat.le_refl _) ⟨z, _, r.rep k.toNat, PyProof.Rows.IsTup.new _ _⟩, rfl, q _ (I.hok.fresh (Nat.le_refl _))⟩
end
theorem op_mulU {X : Cx} : OpR X (binaryOp .Mult) (rMulU X.K) := by
  intro pins s σ H x y v u Q I rx ry h
  obtain ⟨l, xs, rfl, rfl, hH, hne, q⟩ := h
  cases rx
  obtain ⟨t, rfl⟩ := ry
  obtain ⟨its, r, pt, _⟩ := I.tuple hH
  obtain ⟨⟨cls, dd, data, sl⟩, e, hc, n, hd⟩ := id pt
  simp only at hc hd
  subst hc hd
  have h0 : its.toArray.isEmpty = false := by
    cases its with
    | nil => cases r; exact absurd rfl hne
    | cons a b => rfl
  refine wpAny_binaryOp_repeat_ref (T := "tuple") (U := "int") (by decide) ⟨_, e, rfl⟩ (fun s' => typeIs_int s' 1 t) noFill_tuple_mul F.fills_int_mul F.slot_int_rmul repeat_tuple F.slot_int_index.lookup
    (call_meets F.slot_int_rmul (typeIs_int s 1 t) F.entry_int_rmul (F.args_int_rmul_2 _ _) (int_rmul_tuple 1 t l its.toArray n dd sl)
      ⟨e, rfl, ⟨_, e, rfl⟩, call_meets F.slot_tuple_mul ⟨_, e, rfl⟩ F.entry_tuple_mul (F.args_tuple_mul_2 _ _) (tuple_mul1 l its.toArray n dd sl t h0) ⟨e, ?_⟩⟩)
  exact ⟨.ref l, H, I, rfl, q⟩
theorem Reps.rep {K : PySem.W.Frag} {G : Hp} {vs : List V} {ds : List D} (r : Reps K G vs ds) : ∀ k : Nat, Reps K G (List.replicate k vs).flatten (List.replicate k ds).flatten
  | 0 => .nil
  | k + 1 => by
    rw [List.replicate_succ, List.replicate_succ, List.flatten_cons, List.flatten_cons]
    exact r.append (Reps.rep r k)
noncomputable def mulD : D → D → Option D
  | .int i, .int j => if CMul i j then some (.int (i * j)) else none
  | .tup xs, .int k => if xs ≠ [] ∧ 2 ≤ k ∧ k < 2 ^ 63 ∧ xs.length * k.toNat ≤ sizeLine then some (.tup (List.replicate k.toNat xs).flatten) else if xs ≠ [] ∧ k = 1 then some (.tup xs) else none
  | _, _ => none
theorem d_mul {K : PySem.W.Frag} : OpD K (fun x y H Q => rI CMul (fun i j => V.int (i * j)) x y H Q ∨ (rMulT K x y H Q ∨ rMulU K x y H Q)) mulD := by
  intro v u x y G H Q d s rv ru e k
  unfold mulD at e
  split at e
  · rename_i i j
    cases rv.int_inv
    cases ru.int_inv
    split at e
    · rename_i hc
      cases e
      exact .inl ⟨i, j, rfl, rfl, hc, k _ H G (Ext.refl s) (.int _)⟩
    · cases e
  · rename_i xs i
    obtain ⟨p, vs, rfl, h1, r1, g1⟩ := rv.tup_inv s
    cases ru.int_inv
    split at e
    · rename_i hc
      cases e
      refine .inr (.inl ⟨p, i, vs, rfl, rfl, h1, ?_, hc.2.1, hc.2.2.1, by rw [r1.length]; exact hc.2.2.2, fun t ht => ?_⟩)
      · rintro rfl
        cases r1
        exact hc.1 rfl
      · have x := Ext.new s ht (.tup (List.replicate i.toNat vs).flatten)
        exact k _ _ _ x (.tup (.inl (.inl upd_same)) ((r1.rep i.toNat).mono x.gg))
    · split at e
      · rename_i hc
        cases e
        obtain ⟨hn, rfl⟩ := hc
        refine .inr (.inr ⟨p, vs, rfl, rfl, h1, ?_, k _ H G (Ext.refl s) (.tup g1 r1)⟩)
        rintro rfl
        cases r1
        exact hn rfl
      · cases e
  · cases e
theorem ev_mul {X : Cx} {a b : Expr} {f g : Rho → Option D} {pos : Pos} (ha : Rv X a f) (hb : Rv X b g) : Ev X (.BinOp a .Mult b pos) (b2 f g mulD) := ev_bin (op_mul.or (op_mulT.or op_mulU)) d_mul ha hb

section
open PyProof.Rows
variable {prog : Program} {w : World} {A : Around} {E : Value → Shared → Prop} {s : Shared}
theorem getItem_tuple_whole {t sl : Addr} {items : Array Value} {vl vu : Value} {lo hi : Option Int} {Q : Value → Shared → Prop} (ht : IsTup s.heap t items) (hs : s.heap.IsSliceOf sl vl vu .none) (pl : IsPart vl lo) (pu : IsPart vu hi)
    (hw : HT.sIx items.size 0 lo = 0 ∧ HT.sIx items.size items.size hi = items.size) (h : Q (.ref t) s) : wpAny (model prog w) A (getItem (.ref t) (.ref sl)) Q E s := by
  obtain ⟨os, hos, hcs, hds⟩ := id hs
  have hTs : s.TypeIs (.ref sl) "slice" := ⟨os, hos, hcs⟩
  unfold getItem
  try with_reducible refine wpAny_holding ?_
  first | refine wpAny_bind (wpAny_pure ?_) | skip
  refine wpAny_bind (wpAny_sequenceKey ht.typeIs (by decide) ?_)
  refine wpAny_bind (wpAny_callSpecial?_slot (name := Str.ofString "__getitem__") ht.typeIs PyProof.Rows.slot_tuple_getitem
    (wpAny_call_entry PyProof.Rows.slot_tuple_getitem ht.typeIs entry_tuple_getitem ?_ (args_tuple_getitem _ _)))
  show wpAny _ _ (Builtin.Tuple.tupleItemsOf (.ref t) >>= _) _ _ s
  refine wpAny_bind (tupleItemsOf_ ht ?_)
  refine wpAny_bind (wpAny_typeOf hTs ?_)
  rw [if_pos (by decide)]
  refine wpAny_bind (HT.sliceApplied_gen hs pl pu ?_)
  have hyes : ((((HT.sIx items.size 0 lo : Nat) : Int) == 0 && (1 : Int) == 1 && (HT.sIx items.size items.size hi - HT.sIx items.size 0 lo) == items.size) = true) := by
    rw [hw.1, hw.2]
    simp
  show wpAny _ _ (if (((HT.sIx items.size 0 lo : Nat) : Int) == 0 && (1 : Int) == 1 && (HT.sIx items.size items.size hi - HT.sIx items.size 0 lo) == items.size) = true then _ else _) _ _ s
  rw [if_pos hyes]
  refine wpAny_bind (m := Builtin.Tuple.tupleIsExact _) ?_
  unfold Builtin.Tuple.tupleIsExact
  refine wpAny_bind (wpAny_typeOf ht.typeIs (wpAny_pure ?_))
  rw [if_pos (by decide)]
  first
    | exact wpAny_bind (wpAny_rule (wpAny_bind (wpAny_pure (wpAny_pure ⟨_, rfl, wpAny_pure h⟩))))
    | exact wpAny_bind (wpAny_rule (wpAny_pure ⟨_, rfl, wpAny_pure h⟩))
    | exact wpAny_bind (wpAny_rule (wpAny_pure (wpAny_pure ⟨_, rfl, wpAny_pure h⟩)))
end
noncomputable def rSlW (K : PySem.W.Frag) : V → Option Int → Option Int → Hp → VK → Prop := fun x lo hi H Q => ∃ a xs, x = .ref a ∧ SqT K H a xs ∧ (HT.sIx xs.length 0 lo = 0 ∧ HT.sIx xs.length xs.length hi = xs.length) ∧ Q (.ref a) H
theorem sl_tupW {X : Cx} : SlR X (rSlW X.K) := by
  intro pins s σ H x v vl vu lo hi sl Q I rx hs pl pu h
  obtain ⟨a, xs, rfl, hx, hw, q⟩ := h
  cases rx
  obtain ⟨its, r, ht, hz⟩ := I.tuple hx
  have hlen : its.toArray.size = xs.length := by rw [List.size_toArray]; exact r.length.symm
  exact ⟨"tuple", _, PyProof.Rows.slot_tuple_getitem.lookup, ht.typeIs, getItem_tuple_whole ht hs pl pu (by rw [hlen]; exact hw) ⟨.ref a, H, I, rfl, q⟩⟩
noncomputable def cutD (xs : List D) (lo hi : Option Int) : List D := (xs.drop (HT.sIx xs.length 0 lo)).take (HT.sIx xs.length xs.length hi - HT.sIx xs.length 0 lo)
noncomputable def sliceD (x : D) (lo hi : Option Int) : Option D := match x with
  | .tup xs => some (.tup (cutD xs lo hi))
  | .lst xs => some (.lst (cutD xs lo hi))
  | _ => none
noncomputable def TO1 (K : PySem.W.Frag) (f : Rho → Option (Option Int)) : TO := fun σ H Q => ∃ ρ G0 H0 G d, EnvR K G0 H0 ρ σ G H ∧ f ρ = some d ∧ ∀ H' G', Ext G H G' H' → Q d H'
noncomputable def Ov (X : Cx) (e : Option Expr) (f : Rho → Option (Option Int)) : Prop := PO X e (TO1 X.K f)
theorem reps_cut {K : PySem.W.Frag} {G : Hp} {vs : List V} {ds : List D} (r : Reps K G vs ds) (lo hi : Option Int) : Reps K G (cutV vs lo hi) (cutD ds lo hi) := by
  unfold cutV cutD
  rw [r.length]
  exact (r.drop _).take _
section
variable {X : Cx} {e a : Expr} {f : Rho → Option D} {lo hi : Option Expr} {l u : Rho → Option (Option Int)} {p2 pos : Pos}
theorem ov_none : Ov X none (fun _ => some none) := by
  rintro pins s σ H Q I ⟨ρ, G0, H0, G, d, E, hf, k⟩
  cases hf
  exact po_none pins s σ H Q I (k H G (Ext.refl E.gh))
noncomputable def isI : D → Option (Option Int)
  | .int i => some (some i)
  | _ => none
theorem ov_some (h : Rv X e f) : Ov X (some e) (b1 f isI) := by
  rintro pins s σ H Q I ⟨ρ, G0, H0, G, d, E, hf, k⟩
  obtain ⟨x, e1, e2⟩ := b1_some hf
  refine po_some h pins s σ H Q I ⟨ρ, G0, H0, G, x, E, e1, fun v H1 G1 x1 r1 => ?_⟩
  cases x with
  | int i =>
    cases r1.int_inv
    cases e2
    exact ⟨i, rfl, k H1 G1 x1⟩
  | _ => cases e2
theorem ev_slice (he : Rv X e f) (hl : Ov X lo l) (hu : Ov X hi u) : Ev X (.Subscript e (.Slice lo hi none p2) pos) (fun ρ => (f ρ).bind fun x => (l ρ).bind fun i => (u ρ).bind fun j => sliceD x i j) :=
  pe_imp (pe_slice ((sl_tup.or sl_list).or sl_tupW) he hl hu) <| by
    rintro σ H Q ⟨ρ, G0, H0, G, d, E, hf, k⟩
    obtain ⟨x, e1, hf⟩ := bind_some' hf
    obtain ⟨i, e2, hf⟩ := bind_some' hf
    obtain ⟨j, e3, hf⟩ := bind_some' hf
    refine ⟨ρ, G0, H0, G, x, E, e1, fun v H1 G1 x1 r1 => ⟨ρ, G0, H0, G1, i, E.by x1, e2, fun H2 G2 x2 => ⟨ρ, G0, H0, G2, j, (E.by x1).by x2, e3, fun H3 G3 x3 => ?_⟩⟩⟩
    have x23 := x2.trans x3
    have r3 := r1.mono x23.gg x23.hh
    have x13 := x1.trans x23
    cases x with
    | tup xs =>
      obtain ⟨p, vs, rfl, h1, q1, g1⟩ := r3.tup_inv x3.gh
      cases hf
      by_cases hw : HT.sIx xs.length 0 i = 0 ∧ HT.sIx xs.length xs.length j = xs.length
      · refine .inr ⟨p, vs, rfl, h1, by rw [q1.length]; exact hw, ?_⟩
        have e : cutD xs i j = xs := by
          unfold cutD
          rw [hw.1, hw.2]
          simp
        rw [e] at k
        exact k _ _ _ x13 (.tup g1 q1)
      · refine .inl (.inl ⟨p, vs, rfl, h1, by rw [q1.length]; exact hw, fun t ht => ?_⟩)
        have z := Ext.new x3.gh ht (.tup (cutV vs i j))
        exact k _ _ _ (x13.trans z) (.tup (.inl (.inl upd_same)) ((reps_cut q1 i j).mono z.gg))
    | lst xs =>
      obtain ⟨p, vs, rfl, h1, q1⟩ := r3.lst_inv x3.gh
      cases hf
      refine .inl (.inr ⟨p, vs, rfl, h1, fun t ht => ?_⟩)
      have z := Ext.new x3.gh ht (.lst (cutV vs i j))
      exact k _ _ _ (x13.trans z) (.lst (.inl (.inl upd_same)) ((reps_cut q1 i j).mono z.gg))
    | _ => cases hf
end
end PD

set_option Elab.async false
set_option linter.all false
set_option maxRecDepth 100000
namespace PD
open PySem PySem.Spec L2 PyProof.Rows

section
variable {prog : Program} {w : World} {A : Around} {E : Value → Shared → Prop} {s : Shared}
end

noncomputable def revD : D → Option D
  | .tup xs => some (.tup xs.reverse)
  | _ => none
section
variable {X : Cx} {e : Expr} {f : Rho → Option D} {p2 p3 p4 pos : Pos} {j : Nat}
end
end PD

set_option Elab.async false
set_option linter.all false
set_option maxRecDepth 100000
namespace PD
open PySem PySem.Spec L2
noncomputable def compOk (ns : List Str) (scope fs : Scope) (N : List Str) : Bool :=
  (scope.kind == .function) && (scope.names.all fun y => if y.2 = .local then scope.names.lookup y.1 == some .local else true) &&
    (scope.names.all fun y => if y.2 = .free then (fs.names.lookup y.1 == some .cell || fs.names.lookup y.1 == some .free) else true) && (N.all fun x => scope.names.lookup x != some .local && scope.names.lookup x != some .cell) &&
    (scope.names.all fun y => if y.2 = .cell then scope.names.lookup y.1 == some .cell else if y.2 = .free then scope.names.lookup y.1 == some .free else true)
theorem compScopeH {X : Cx} {ns : List Str} {scope fs : Scope} {N N' : List Str} (he : X.env.scope = fs) (hN : X.N = N) (hl : N'.length = N.length) (hs : ((List.range N.length).all fun i => (N'[i]? == N[i]?) || (match N'[i]? with | some x => scope.names.lookup x != some .free | none => true)) = true) (h : compOk ns scope fs N' = true) : CompScope X N' ns scope := by
  unfold compOk at h
  simp only [Bool.and_eq_true, List.all_eq_true] at h
  obtain ⟨⟨⟨⟨h1, h3⟩, h4⟩, h5⟩, h6⟩ := h
  refine ⟨eq_of_beq h1, fun y hy z => ?_, fun y hy z => ?_, fun x hx => ⟨fun z => ?_, fun z => ?_⟩, fun x hx hm => ?_, fun x hx => ?_, by rw [hl, hN], fun i x e hf => ?_⟩
  · have := h3 y hy
    rw [if_pos z] at this
    exact eq_of_beq this
  · have := h4 y hy
    rw [if_pos z, Bool.or_eq_true] at this
    unfold Env.kindOf
    rw [he]
    rcases this with q | q
    · exact .inl (eq_of_beq q)
    · exact .inr (eq_of_beq q)
  · have := (h5 x hx).1
    rw [z] at this
    exact absurd this (by decide)
  · have := (h5 x hx).2
    rw [z] at this
    exact absurd this (by decide)
  · have := h6 _ hm
    dsimp only at this
    rw [if_neg (by decide), if_pos rfl, hx] at this
    exact absurd this (by decide)
  · have := h6 _ hx
    dsimp only at this
    rw [if_pos rfl] at this
    exact eq_of_beq this
  · rw [List.all_eq_true] at hs
    have hi : i < N.length := by
      rw [← hl]
      exact (List.getElem?_eq_some_iff.mp e).1
    have := hs i (List.mem_range.mpr hi)
    rw [e, Bool.or_eq_true] at this
    rcases this with z | z
    · rw [hN]
      exact (eq_of_beq z).symm
    · dsimp only at z
      rw [hf] at z
      exact absurd z (by decide)
theorem compScope {X : Cx} {ns : List Str} {scope fs : Scope} {N : List Str} (he : X.env.scope = fs) (hN : X.N = N) (h : compOk ns scope fs N = true) : CompScope X X.N ns scope := by
  rw [hN]
  exact compScopeH he hN rfl (List.all_eq_true.mpr fun i _ => by rw [beq_self_eq_true, Bool.true_or]) h

end PD

set_option Elab.async false
set_option linter.all false
set_option maxRecDepth 100000
namespace PD
open PySem PySem.Spec L2

theorem compG1 {c : Rho → Option Bool} {f : Rho → Option D} {ρ : Rho} {p : D → Bool} {h : D → D} : ∀ {ds : List D}, (∀ d ∈ ds, c (some (.sh d) :: ρ) = some (p d)) → (∀ d ∈ ds, p d = true → f (some (.sh d) :: ρ) = some (h d)) →
    compG bd1 c f ρ ds = some ((ds.filter p).map h)
  | [], _, _ => rfl
  | d :: ds, h1, h2 => by
    have ih := compG1 (ds := ds) (fun x hx => h1 x (List.mem_cons_of_mem _ hx)) (fun x hx => h2 x (List.mem_cons_of_mem _ hx))
    unfold compG
    simp only [bd1, Option.bind_some, h1 d List.mem_cons_self]
    cases hp : p d with
    | true => simp only [if_true, h2 d List.mem_cons_self hp, Option.bind_some, ih, List.filter_cons, hp, List.map_cons]
    | false => simp only [Bool.false_eq_true, if_false, ih, List.filter_cons, hp]
theorem compD_map {it : Rho → Option (List D)} {f : Rho → Option D} {ρ : Rho} {ds : List D} {h : D → D} (hi : it ρ = some ds) (hf : ∀ d ∈ ds, f (some (.sh d) :: ρ) = some (h d)) (hz : ds.length ≤ sizeLine) :
    compD it bd1 (fun _ => some true) f ρ = some (ds.map h) := by
  unfold compD
  have e : compG bd1 (fun _ => some true) f ρ ds = some ((ds.filter fun _ => true).map h) := compG1 (fun _ _ => rfl) (fun d hd _ => hf d hd)
  have e2 : ds.filter (fun _ => true) = ds := by simp
  rw [e2] at e
  rw [hi, Option.bind_some, e, Option.bind_some]
  unfold fit
  rw [if_pos (by rw [List.length_map]; exact hz)]
theorem compD_filter {it : Rho → Option (List D)} {c : Rho → Option Bool} {f : Rho → Option D} {ρ : Rho} {ds : List D} {p : D → Bool} {h : D → D} (hi : it ρ = some ds) (hc : ∀ d ∈ ds, c (some (.sh d) :: ρ) = some (p d)) (hf : ∀ d ∈ ds, p d = true → f (some (.sh d) :: ρ) = some (h d)) (hz : ds.length ≤ sizeLine) :
    compD it bd1 c f ρ = some ((ds.filter p).map h) := by
  unfold compD
  rw [hi, Option.bind_some, compG1 hc hf, Option.bind_some]
  unfold fit
  rw [if_pos (by rw [List.length_map]; exact Nat.le_trans (List.length_filter_le _ _) hz)]
theorem eqOp_nil (ds : List D) : eqOp (.lst ds) (.lst []) = some (.bl ds.isEmpty) := by
  unfold eqOp
  have e : min (dep (.lst ds)) (dep (.lst [])) ≤ 60 := by simp only [dep, deps]; omega
  rw [if_pos e]
  cases ds <;> rfl
theorem neOp_nil (ds : List D) : neOp (.lst ds) (.lst []) = some (.bl (!ds.isEmpty)) := by
  unfold neOp
  have e : min (dep (.lst ds)) (dep (.lst [])) ≤ 60 := by simp only [dep, deps]; omega
  rw [if_pos e]
  cases ds <;> rfl
theorem eqOp_int (i j : Int) : eqOp (.int i) (.int j) = some (.bl (i == j)) := by
  unfold eqOp
  rw [if_pos (by simp [dep])]
  rfl
theorem neOp_int (i j : Int) : neOp (.int i) (.int j) = some (.bl (!(i == j))) := by
  unfold neOp
  rw [if_pos (by simp [dep])]
  rfl
theorem eqOp_bl (i j : Bool) : eqOp (.bl i) (.bl j) = some (.bl (i == j)) := by
  unfold eqOp
  rw [if_pos (by simp [dep])]
  rfl
theorem filter_isEmpty {α : Type} {p : α → Bool} (l : List α) : (l.filter fun x => !p x).isEmpty = l.all p := by
  induction l with
  | nil => rfl
  | cons a l ih =>
    rw [List.filter_cons, List.all_cons]
    cases h : p a with
    | true => simpa using ih
    | false => simp
theorem line_le {n : Nat} (h : n ≤ 100000) : n ≤ sizeLine := Nat.le_trans h (by decide)
@[simp] theorem fitOk {α : Type} {n : Nat} (a : α) (h : n ≤ 100000) : fit n a = some a := by
  unfold fit
  rw [if_pos (line_le h)]
end PD

set_option Elab.async false
set_option linter.all false
set_option maxRecDepth 100000
namespace PD
open PySem PySem.Spec L2
section
variable {α β γ : Type} {f g h : Rho → Option D} {ρ : Rho} {d x y : D} {i j : Int} {b c : Bool} {n : Nat}
@[simp] theorem b1_ap (f : Rho → Option α) (k : α → Option β) (ρ : Rho) : b1 f k ρ = (f ρ).bind k := rfl
@[simp] theorem b2_ap (f : Rho → Option α) (g : Rho → Option β) (k : α → β → Option γ) (ρ : Rho) : b2 f g k ρ = (f ρ).bind fun x => (g ρ).bind fun y => k x y := rfl
@[simp] theorem cons2_ap (f : Rho → Option D) (fs : Rho → Option (List D)) (ρ : Rho) : cons2 f fs ρ = (f ρ).bind fun x => (fs ρ).bind fun xs => some (x :: xs) := rfl
@[simp] theorem andD_bl (b : Bool) (k : Option D) : andD (.bl b) k = if b = true then k else some (.bl false) := by cases b <;> rfl
@[simp] theorem orD_bl (b : Bool) (k : Option D) : orD (.bl b) k = if b = true then some (.bl true) else k := by cases b <;> rfl
@[simp] theorem notD_bl (b : Bool) : notD (.bl b) = some (.bl (!b)) := rfl
@[simp] theorem getS_zero (d : D) (ρ : Rho) : getS 0 (some (.sh d) :: ρ) = some d := rfl
@[simp] theorem getS_succ (n : Nat) (v : Option PV) (ρ : Rho) : getS (n + 1) (v :: ρ) = getS n ρ := by unfold getS; rw [List.getElem?_cons_succ]
@[simp] theorem getR_sh (d : D) (ρ : Rho) : getR 0 (some (.sh d) :: ρ) = some d := rfl
@[simp] theorem getR_ow (ds : List D) (ρ : Rho) : getR 0 (some (.ow ds) :: ρ) = some (.lst ds) := rfl
@[simp] theorem getR_succ (n : Nat) (v : Option PV) (ρ : Rho) : getR (n + 1) (v :: ρ) = getR n ρ := by unfold getR; rw [List.getElem?_cons_succ]
@[simp] theorem intOp_int (g : Int → Int → Option D) (i j : Int) : intOp g (.int i) (.int j) = g i j := rfl
@[simp] theorem addD_int (i j : Int) : addD (.int i) (.int j) = some (.int (i + j)) := rfl
@[simp] theorem addD_str (i j : Str) : addD (.str i) (.str j) = fit (i.length + j.length) (.str (i ++ j)) := rfl
@[simp] theorem addD_tup (i j : List D) : addD (.tup i) (.tup j) = fit (i.length + j.length) (.tup (i ++ j)) := rfl
@[simp] theorem addD_lst (i j : List D) : addD (.lst i) (.lst j) = fit (i.length + j.length) (.lst (i ++ j)) := rfl
@[simp] theorem mulD_int (i j : Int) : mulD (.int i) (.int j) = if CMul i j then some (.int (i * j)) else none := rfl
@[simp] theorem negD_int (i : Int) : negD (.int i) = some (.int (-i)) := rfl
@[simp] theorem ixD_tup (xs : List D) (i : Int) : ixD (.tup xs) (.int i) = atI xs i := rfl
@[simp] theorem ixD_lst (xs : List D) (i : Int) : ixD (.lst xs) (.int i) = atI xs i := rfl
@[simp] theorem lenD_tup (xs : List D) : lenD [.tup xs] = some (.int xs.length) := rfl
@[simp] theorem lenD_lst (xs : List D) : lenD [.lst xs] = some (.int xs.length) := rfl
@[simp] theorem tupleD_tup (xs : List D) : tupleD [.tup xs] = some (.tup xs) := rfl
@[simp] theorem tupleD_lst (xs : List D) : tupleD [.lst xs] = some (.tup xs) := rfl
@[simp] theorem listD_tup (xs : List D) : listD [.tup xs] = some xs := rfl
@[simp] theorem listD_lst (xs : List D) : listD [.lst xs] = some xs := rfl
@[simp] theorem maxD_int (i j : Int) : maxD [.int i, .int j] = some (.int (if j > i then j else i)) := rfl
@[simp] theorem minD_int (i j : Int) : minD [.int i, .int j] = some (.int (if j < i then j else i)) := rfl
@[simp] theorem strD_int (i : Int) : strD [.int i] = if i.natAbs.log2 < 1920 then some (.str (toString i)) else none := rfl
@[simp] theorem seqD_tup (xs : List D) : seqD (.tup xs) = some xs := rfl
@[simp] theorem seqD_lst (xs : List D) : seqD (.lst xs) = some xs := rfl
@[simp] theorem isB_bl (b : Bool) : isB (.bl b) = some b := rfl
@[simp] theorem truD_bl (b : Bool) : truD (.bl b) = some b := rfl
@[simp] theorem truD_int (i : Int) : truD (.int i) = some (i != 0) := rfl
@[simp] theorem truD_tup (xs : List D) : truD (.tup xs) = some (!xs.isEmpty) := rfl
@[simp] theorem truD_lst (xs : List D) : truD (.lst xs) = some (!xs.isEmpty) := rfl
@[simp] theorem truD_non : truD .non = some false := rfl
@[simp] theorem andB_ap (p q : Rho → Option Bool) (ρ : Rho) : andB p q ρ = (p ρ).bind fun x => if x = true then q ρ else some false := rfl
@[simp] theorem orB_ap (p q : Rho → Option Bool) (ρ : Rho) : orB p q ρ = (p ρ).bind fun x => if x = true then some true else q ρ := rfl
@[simp] theorem iteV_ap (p : Rho → Option Bool) (f g : Rho → Option D) (ρ : Rho) : iteV p f g ρ = (p ρ).bind fun x => if x = true then f ρ else g ρ := rfl
@[simp] theorem iteO_ap (p : Rho → Option Bool) (f g : Rho → Option Out) (ρ : Rho) : iteO p f g ρ = (p ρ).bind fun x => if x = true then f ρ else g ρ := rfl
@[simp] theorem seqO_ap (g k : Rho → Option Out) (ρ : Rho) : seqO g k ρ = (g ρ).bind fun o => match o with | .nx ρ' => k ρ' | o => some o := rfl
@[simp] theorem forD_ap (it : Rho → Option (List D)) (bd : D → Rho → Option Rho) (g : Rho → Option Out) (ρ : Rho) : forD it bd g ρ = (it ρ).bind fun ds => forG bd g ds ρ := rfl
@[simp] theorem chainD_ap (p q : D → D → Option D) (f g h : Rho → Option D) (ρ : Rho) : chainD p q f g h ρ = (f ρ).bind fun x => (g ρ).bind fun y => (p x y).bind fun z => andD z ((h ρ).bind fun w => q y w) := rfl
@[simp] theorem outD_rt (d : D) : outD (.rt d) = some d := rfl
@[simp] theorem outD_nx (ρ : Rho) : outD (.nx ρ) = some .non := rfl
@[simp] theorem isI_int (i : Int) : isI (.int i) = some (some i) := rfl
@[simp] theorem eqOp_int' (i j : Int) : eqOp (.int i) (.int j) = some (.bl (i == j)) := eqOp_int i j
@[simp] theorem neOp_int' (i j : Int) : neOp (.int i) (.int j) = some (.bl (!(i == j))) := neOp_int i j
@[simp] theorem eqOp_bl' (i j : Bool) : eqOp (.bl i) (.bl j) = some (.bl (i == j)) := eqOp_bl i j
@[simp] theorem eqOp_nil' (xs : List D) : eqOp (.lst xs) (.lst []) = some (.bl xs.isEmpty) := eqOp_nil xs
@[simp] theorem neOp_nil' (xs : List D) : neOp (.lst xs) (.lst []) = some (.bl (!xs.isEmpty)) := neOp_nil xs
@[simp] theorem revD_tup (xs : List D) : revD (.tup xs) = some (.tup xs.reverse) := rfl
@[simp] theorem set1_ap (i : Nat) (d : D) (ρ : Rho) : set1 i d ρ = some (ρ.set i (some (.sh d))) := rfl
@[simp] theorem bd1_ap (d : D) (ρ : Rho) : bd1 d ρ = some (some (.sh d) :: ρ) := rfl
@[simp] theorem startR_eq (n : Nat) (ds : List D) : startR n ds = ds.map (fun d => some (.sh d)) ++ List.replicate (n - ds.length) none := rfl
theorem atI_zero (x : D) (xs : List D) : atI (x :: xs) 0 = some x := atI_nat (j := 0) rfl
theorem atI_two (x y z : D) (xs : List D) : atI (x :: y :: z :: xs) 2 = some z := atI_nat (j := 2) rfl
theorem atI_one (x y : D) (xs : List D) : atI (x :: y :: xs) 1 = some y := atI_nat (j := 1) rfl
end
end PD

set_option Elab.async false
set_option linter.all false
set_option maxRecDepth 100000
namespace PD
open PySem PySem.Spec L2
section
variable {P : Program} {w : World} {K : PySem.W.Frag} {mg : Str → Option Value} {base : Heap}
theorem fn_ex {x qual : Str} {st : Stmt} {f : Addr} {fd : FuncData} {N ps : List Str} {k : Nat} {g : Rho → Option Out} (pre : List D → Prop) (post : List D → D → Prop) (Fn : Fun K x qual st f fd) (S : FnScope N ps (defScope st)) (hm : mg x = some (.ref f)) (hB : Binds K fd ps [])
    (hbody : ∀ (cdv : Value) (A : Around) (outer : List Env) (s : Shared) (H : Hp) (E : XK), Room k (A.deeper (PyProof.Rows.envOfC qual (defScope st) s.heap.objs.size f cdv)) →
      Bv (cxOf CX0 P w K mg base N qual (defScope st) f cdv A outer s H E).nox (defBody st) g)
    (h : ∀ ds, pre ds → ds.length = ps.length ∧ ∃ d, (g (startR N.length ds)).bind outD = some d ∧ post ds d) : ∃ F, FnD P w K mg base (k + 1) x ps F ∧ ∀ ds, pre ds → ∃ d, F ds = some d ∧ post ds d := by
  refine ⟨fun ds => if ds.length = ps.length then (g (startR N.length ds)).bind outD else none, fn_body Fn S hm hB hbody fun ds d e => ?_, fun ds hp => ?_⟩
  · split at e
    · rename_i hl; exact ⟨hl, e⟩
    · cases e
  · obtain ⟨hl, d, h1, h2⟩ := h ds hp
    exact ⟨d, by dsimp only; rw [if_pos hl]; exact h1, h2⟩
end
theorem compG_ex {f : Rho → Option D} {ρ : Rho} {Q : D → D → Prop} : ∀ {ds : List D}, (∀ d ∈ ds, ∃ y, f (some (.sh d) :: ρ) = some y ∧ Q d y) → ∃ ys, compG bd1 (fun _ => some true) f ρ ds = some ys ∧ ys.length = ds.length ∧ (∀ y ∈ ys, ∃ d ∈ ds, Q d y)
  | [], _ => ⟨[], rfl, rfl, fun y hy => by cases hy⟩
  | d :: ds, h => by
    obtain ⟨y, h1, h2⟩ := h d List.mem_cons_self
    obtain ⟨ys, e1, e2, e3⟩ := compG_ex (ds := ds) fun x hx => h x (List.mem_cons_of_mem _ hx)
    refine ⟨y :: ys, ?_, by simp [e2], fun z hz => ?_⟩
    · unfold compG
      simp [h1, e1]
    · rcases List.mem_cons.mp hz with rfl | hz
      · exact ⟨d, List.mem_cons_self, h2⟩
      · obtain ⟨x, hx, q⟩ := e3 z hz
        exact ⟨x, List.mem_cons_of_mem _ hx, q⟩
theorem compD_ex {it : Rho → Option (List D)} {f : Rho → Option D} {ρ : Rho} {Q : D → D → Prop} {ds : List D} (hi : it ρ = some ds) (hz : ds.length ≤ 1000) (h : ∀ d ∈ ds, ∃ y, f (some (.sh d) :: ρ) = some y ∧ Q d y) :
    ∃ ys, compD it bd1 (fun _ => some true) f ρ = some ys ∧ ys.length = ds.length ∧ (∀ y ∈ ys, ∃ d ∈ ds, Q d y) := by
  obtain ⟨ys, e1, e2, e3⟩ := compG_ex h
  refine ⟨ys, ?_, e2, e3⟩
  unfold compD
  rw [hi, Option.bind_some, e1, Option.bind_some]
  exact fitOk _ (by first | assumption | exact Nat.le_of_lt ‹_› | omega)
theorem forG_inv {bd : D → Rho → Option Rho} {g : Rho → Option Out} (inv : Nat → Rho → Prop) : ∀ (ds : List D) (n : Nat) (ρ : Rho), (∀ d ∈ ds, ∀ i ρ, n ≤ i → i < n + ds.length → inv i ρ → ∃ ρ1, bd d ρ = some ρ1 ∧ ∃ ρ', g ρ1 = some (.nx ρ') ∧ inv (i + 1) ρ') → inv n ρ →
    ∃ ρ', forG bd g ds ρ = some (.nx ρ') ∧ inv (n + ds.length) ρ'
  | [], n, ρ, _, h => ⟨ρ, rfl, h⟩
  | d :: ds, n, ρ, hs, h => by
    obtain ⟨ρ1, e1, ρ2, e2, i2⟩ := hs d List.mem_cons_self n ρ (Nat.le_refl _) (by simp) h
    obtain ⟨ρ3, e3, i3⟩ := forG_inv inv ds (n + 1) ρ2 (fun x hx i ρ h1 h2 h3 => hs x (List.mem_cons_of_mem _ hx) i ρ (by first | assumption | exact Nat.le_of_lt ‹_› | omega) (by simp only [List.length_cons]; omega) h3) i2
    refine ⟨ρ3, ?_, by rw [List.length_cons, show n + (ds.length + 1) = n + 1 + ds.length by omega]; exact i3⟩
    unfold forG
    simp [e1, e2, e3]
theorem rngL_length (lo : Int) (n : Nat) : (rngL lo n).length = n := by simp [rngL]
theorem rngL_mem {lo : Int} {n : Nat} {d : D} (h : d ∈ rngL lo n) : ∃ i : Nat, i < n ∧ d = .int (lo + i) := by
  unfold rngL at h
  obtain ⟨i, hi, rfl⟩ := List.mem_map.mp h
  exact ⟨i, List.mem_range.mp hi, rfl⟩
theorem rng1_small {j : Int} (h0 : -1000 ≤ j) (h1 : j ≤ 1000) : rng1 [.int j] = some (rngL 0 j.toNat) := by
  show (if -(2 ^ 62) ≤ j ∧ j < 2 ^ 62 then some (rngL 0 j.toNat) else none) = _
  rw [if_pos (by constructor <;> omega)]
theorem atI_some {α : Type} {xs : List α} {i : Int} (h0 : 0 ≤ i) (h1 : i < xs.length) : ∃ x ∈ xs, atI xs i = some x := by
  have hi : i.toNat < xs.length := by omega
  have e : i = ((i.toNat : Nat) : Int) := by omega
  refine ⟨xs[i.toNat], List.getElem_mem hi, ?_⟩
  have q := atI_nat (xs := xs) (j := i.toNat) (List.getElem?_eq_getElem hi)
  rw [← e] at q
  exact q
end PD

set_option Elab.async false
set_option linter.all false
set_option maxRecDepth 100000
namespace PD
open PySem PySem.Spec L2
@[simp] theorem sliceD_tup (xs : List D) (lo hi : Option Int) : sliceD (.tup xs) lo hi = some (.tup (cutD xs lo hi)) := rfl
@[simp] theorem sliceD_lst (xs : List D) (lo hi : Option Int) : sliceD (.lst xs) lo hi = some (.lst (cutD xs lo hi)) := rfl
end PD
namespace PD
open PySem PySem.Spec L2
section
variable {P : Program} {w : World} {K : PySem.W.Frag} {mg : Str → Option Value} {base : Heap}
theorem fn_body_at {x qual : Str} {st : Stmt} {f : Addr} {fd : FuncData} {N ps : List Str} {k : Nat} {F : List D → Option D} {g : Rho → Option Out} (Fn : Fun K x qual st f fd) (S : FnScope N ps (defScope st))
    (hbody : ∀ (cdv : Value) (A : Around) (outer : List Env) (s : Shared) (H : Hp) (E : XK), Room k (A.deeper (PyProof.Rows.envOfC qual (defScope st) s.heap.objs.size f cdv)) →
      Bv (cxOf CX0 P w K mg base N qual (defScope st) f cdv A outer s H E).nox (defBody st) g)
    (hF : ∀ ds d, F ds = some d → ds.length = ps.length ∧ (g (startR N.length ds)).bind outD = some d) : FnOk P w K mg base CX0 (k + 1) f fd ps (spD K ps.length F) := by
  refine Fn.ok S (fun vs H Q E h => ?_) (fun cdv A outer s H vs Q E hr h => ?_)
  · obtain ⟨G, ds, d, _, r, hl, _⟩ := h
    rw [r.length]
    exact hl
  · obtain ⟨G, ds, d, gh, r, hl, e, q⟩ := h
    refine ⟨_, hbody cdv A outer s H E hr, ?_⟩
    obtain ⟨_, e2⟩ := hF ds d e
    obtain ⟨o, e3, e4⟩ := bind_some' e2
    have hpl : ps.length ≤ N.length := by have := congrArg List.length S.pre; rw [List.length_take] at this; omega
    refine ⟨startR N.length ds, G, H, G, o, env_start gh r (by first | assumption | exact Nat.le_of_lt ‹_› | omega), e3, ?_⟩
    cases o with
    | nx ρ =>
      cases e4
      exact fun σ G' H' R s => q .non H' G' R.ext .non
    | rt d' =>
      cases e4
      exact fun v G' H' x r => q v H' G' x r
    | bk ρ => cases e4
    | ct ρ => cases e4
end
theorem reps_ints {K : PySem.W.Frag} {G : Hp} : ∀ ns : List Int, Reps K G (ns.map V.int) (ns.map D.int)
  | [] => .nil
  | n :: ns => .cons (.int n) (reps_ints ns)
theorem spD_law {K : PySem.W.Frag} {H : Hp} {a : Addr} {ns : List Int} {M : List D → Option D} {E : XK} (hS : SqL K H a (ns.map V.int)) (hM : ∀ ns : List Int, M [.lst (ns.map D.int)] = some (.bl true)) : spD K 1 M [.ref a] H (fun v _ => v = .bl true) E :=
  ⟨H, [.lst (ns.map D.int)], .bl true, Same.refl H, .cons (.lst hS (reps_ints ns)) .nil, rfl, hM ns, fun v H' G' _ r => by cases r; rfl⟩
end PD

set_option Elab.async false
set_option linter.all false
set_option maxRecDepth 100000
namespace PD
open PySem PySem.Spec L2
end PD

set_option Elab.async false
set_option linter.all false
set_option maxRecDepth 100000
namespace PD
open PySem PySem.Spec L2 PyProof.Rows

section
variable {P : Program} {w : World} {K : PySem.W.Frag} {mg : Str → Option Value} {base : Heap} {N : List Str} {qual : Str} {scope : Scope} {f : Addr} {cd : Value} {A : Around} {outer : List Env} {s s1 : Shared} {H H1 : Hp} {E : XK}
  {pins : List (Addr × Obj)} {σ : L2.St}
end

section
variable {P : Program} {w : World} {K : PySem.W.Frag} {mg : Str → Option Value} {base : Heap} {k : Nat} {x : Str} {ps : List Str} {C : Addr} {F : List D → Option D} {R : List D → Bool}
end
section
variable {P : Program} {w : World} {K : PySem.W.Frag} {mg : Str → Option Value} {base : Heap}
end
end PD

set_option Elab.async false
set_option linter.all false
set_option maxRecDepth 100000
namespace PD
open PySem PySem.Spec L2 PyProof.Rows

section
variable {X : Cx} {pins : List (Addr × Obj)} {σ : L2.St} {H H1 H2 : Hp} {s s1 : Shared} {ea : Addr}
end
end PD

set_option Elab.async false
set_option linter.all false
set_option maxRecDepth 100000
namespace PD
open PySem PySem.Spec L2 PyProof.Rows

section
variable {X : Cx} {k : Nat} {fx x : Str} {ps : List Str} {C C' : Addr} {F : List D → Option D} {R : List D → Bool} {a : Expr} {as : List Expr} {fs : Rho → Option (List D)} {b0 : Stmt} {suite : List Stmt} {g : Rho → Option Out} {p cpos epos np hp pos : Pos}
end
end PD

set_option Elab.async false
set_option linter.all false
set_option maxRecDepth 100000
namespace PD
open PySem PySem.Spec L2 PyProof.Rows PySem.W

section
variable {prog : Program} {w : World} {A : Around} {E : Value → Shared → Prop} {s : Shared} {K : Frag} {x C : Addr} {ox : Obj}
end
end PD

set_option Elab.async false
set_option linter.all false
set_option maxRecDepth 100000
namespace PD
open PySem PySem.Spec L2 PyProof.Rows

section
variable {X : Cx} {pins : List (Addr × Obj)} {σ : L2.St} {H H1 H2 : Hp} {s s1 s6 : Shared} {ea C : Addr}
end
end PD

set_option Elab.async false
set_option linter.all false
set_option maxRecDepth 100000
namespace PD
open PySem PySem.Spec L2 PyProof.Rows

section
variable {X : Cx} {C : Addr} {b : Bool} {n y : Str} {p p1 p2 pos : Pos}
end
section
variable {X : Cx} {k : Nat} {fx x n : Str} {ps : List Str} {C C' : Addr} {F : List D → Option D} {R : List D → Bool} {a : Expr} {as : List Expr} {fs : Rho → Option (List D)} {b0 : Stmt} {suite : List Stmt} {g : Rho → Option D} {p cpos epos np hp pos : Pos} {ts : TS}
end
end PD

set_option Elab.async false
set_option linter.all false
set_option maxRecDepth 100000
namespace PD
open PySem PySem.Spec L2 PyProof.Rows

section
variable {X : Cx} {o e : Expr} {f : Rho → Option D} {fs : Rho → Option (List D)} {apos cpos : Pos}
end

noncomputable def sliceT (x : D) (lo hi : Option Int) : Option D := match x with
  | .str y => if y.length ≤ sizeLine then some (.str (Txt.slice y lo hi)) else none
  | _ => none
end PD

set_option Elab.async false
set_option linter.all false
set_option maxRecDepth 100000
namespace PD
open PySem PySem.Spec L2

@[simp] theorem eqOp_str (x y : Str) : eqOp (.str x) (.str y) = some (.bl (x == y)) := by
  unfold eqOp
  rw [if_pos (by simp [dep])]
  rfl
@[simp] theorem neOp_str (x y : Str) : neOp (.str x) (.str y) = some (.bl (!(x == y))) := by
  unfold neOp
  rw [if_pos (by simp [dep])]
  rfl
@[simp] theorem sliceT_str (x : Str) (lo hi : Option Int) : sliceT (.str x) lo hi = if x.length ≤ sizeLine then some (.str (Txt.slice x lo hi)) else none := rfl
end PD

set_option Elab.async false
set_option linter.all false
set_option maxRecDepth 100000
namespace PD
open PySem PySem.Spec L2 PyProof.Rows

inductive SK where
  | l | t
noncomputable def SK.sq : SK → Heap → Addr → Array Value → Prop
  | .l, h, a, xs => h.IsList a xs
  | .t, h, a, xs => h.IsTuple a xs
noncomputable def SK.ty : SK → String
  | .l => "list_iterator"
  | .t => "tuple_iterator"
noncomputable def SK.it (k : SK) (h : Heap) (i a : Addr) (n : Nat) : Prop := ∃ o, h.get? i = some o ∧ o.cls = .type k.ty ∧ o.data = .fields #[.ref a, .int n 0]
theorem SK.sq_at {k : SK} {h h' : Heap} {a : Addr} {xs : Array Value} (x : k.sq h a xs) (e : ∀ o, h.get? a = some o → h'.get? a = some o) : k.sq h' a xs := by
  cases k <;> exact let ⟨o, h1, r⟩ := x; ⟨o, e o h1, r⟩
theorem SK.it_at {k : SK} {h h' : Heap} {i a : Addr} {n : Nat} (x : k.it h i a n) (e : ∀ o, h.get? i = some o → h'.get? i = some o) : k.it h' i a n := let ⟨o, h1, r⟩ := x; ⟨o, e o h1, r⟩
section
variable {prog : Program} {w : World} {A : Around} {E : Value → Shared → Prop} {s : Shared}
theorem tup_item {i l : Addr} {n : Nat} {xs : Array Value} {x : Value} {Q : Value → Shared → Prop} (a : s.heap.IsTupleIter i l n) (b : s.heap.IsTuple l xs) (c : xs[n]? = some x)
    (q : ∀ h', h'.IsTupleIter i l (n + 1) → Heap.SameBut i s.heap h' → Q x { s with heap := h' }) : wpAny (model prog w) A (Builtin.SmallTypes.nextOf (.ref i)) Q E s := by
  obtain ⟨o, g1, g2, g3⟩ := id a
  obtain ⟨ol, g4, _, m, g5⟩ := b
  unfold Builtin.SmallTypes.nextOf
  refine wpAny_bind (wpAny_callSpecial?_slot (name := Str.ofString "__next__") a.typeIs F.slot_tuple_iterator_next (wpAny_call_entry F.slot_tuple_iterator_next a.typeIs F.entry_tuple_iterator_next ?_ (F.args_tuple_iterator_next_1 _)))
  show wpAny (model prog w) _ (field (.ref i) 0 >>= _) _ _ s
  refine wpAny_bind (wpAny_field g1 g3 (x := .ref l) rfl ?_)
  show wpAny (model prog w) _ (if (Value.ref l == Value.none) = true then _ else _) _ _ s
  rw [if_neg (c := (Value.ref l == Value.none) = true) (fun z => absurd z Bool.false_ne_true)]
  show wpAny (model prog w) _ (field (.ref i) 1 >>= _) _ _ s
  refine wpAny_bind (wpAny_field g1 g3 (x := .int n 0) rfl ?_)
  show wpAny (model prog w) _ (seqItems? (.ref l) >>= _) _ _ s
  refine wpAny_bind (wpAny_seqItems g4 g5 ?_)
  simp only [Int.toNat_natCast, c]
  refine wpAny_bind (wpAny_setField g1 g3 (by simp) (wpAny_pure ⟨x, rfl, wpAny_pure (q _ ⟨_, Heap.get?_update_self _ g1 (Obj.isFreed_of_fields (Obj.data_mapFields g3 _)), (Obj.cls_mapFields ..).trans g2, ?_⟩ (Heap.SameBut.update ..))⟩))
  rw [Obj.data_mapFields g3]
  simp [rawInt]
theorem tup_end {i l : Addr} {n : Nat} {xs : Array Value} {Q : Value → Shared → Prop} (hh : A.handled = none) (a : s.heap.IsTupleIter i l n) (b : s.heap.IsTuple l xs) (c : xs[n]? = none)
    (q : ∀ h' e, Heap.ExtBut i s.heap h' → (∃ o, h'.get? e = some o ∧ o.cls = .type "StopIteration") → E (.ref e) { s with heap := h' }) : wpAny (model prog w) A (Builtin.SmallTypes.nextOf (.ref i)) Q E s := by
  obtain ⟨o, g1, g2, g3⟩ := id a
  obtain ⟨ol, g4, _, m, g5⟩ := b
  unfold Builtin.SmallTypes.nextOf
  refine wpAny_bind (wpAny_callSpecial?_slot (name := Str.ofString "__next__") a.typeIs F.slot_tuple_iterator_next (wpAny_call_entry F.slot_tuple_iterator_next a.typeIs F.entry_tuple_iterator_next ?_ (F.args_tuple_iterator_next_1 _)))
  show wpAny (model prog w) _ (field (.ref i) 0 >>= _) _ _ s
  refine wpAny_bind (wpAny_field g1 g3 (x := .ref l) rfl ?_)
  show wpAny (model prog w) _ (if (Value.ref l == Value.none) = true then _ else _) _ _ s
  rw [if_neg (c := (Value.ref l == Value.none) = true) (fun z => absurd z Bool.false_ne_true)]
  show wpAny (model prog w) _ (field (.ref i) 1 >>= _) _ _ s
  refine wpAny_bind (wpAny_field g1 g3 (x := .int n 0) rfl ?_)
  show wpAny (model prog w) _ (seqItems? (.ref l) >>= _) _ _ s
  refine wpAny_bind (wpAny_seqItems g4 g5 ?_)
  simp only [Int.toNat_natCast, c]
  refine wpAny_bind (wpAny_rule (wpAny_bind (wpAny_setField g1 g3 (by simp) ?_)))
  show wpAny (model prog w) _ (newExc (.type "StopIteration") [] >>= _) _ _ _
  refine wpAny_bind ?_
  simp only [newExc, newTuple]
  refine wpAny_bind (wpAny_newObj_type (wpAny_bind (m := firstArgMember _ _) (wpAny_of_eq (a := Value.none) (by first | rfl | (simp only [firstArgMember]; rfl)) (wpAny_newObj_type ?_ (by size_fits)))) (by size_fits))
  simp only [raiseNew]
  refine wpAny_bind (wpAny_handled ?_)
  first | rw [show A.in1.handled = none from hh] | rw [hh]
  exact wpAny_bind (wpAny_pure (wpAny_throw (q _ _ (((Heap.SameBut.update ..).extBut.push _).push _) ⟨_, Heap.get?_push_size _ rfl, rfl⟩)))
theorem sk_item (k : SK) {i l : Nat} {n : Nat} {xs : Array Value} {x : Value} {Q : Value → Shared → Prop} (a : k.it s.heap i l n) (b : k.sq s.heap l xs) (c : xs[n]? = some x)
    (q : ∀ h', k.it h' i l (n + 1) → Heap.SameBut i s.heap h' → Q x { s with heap := h' }) : wpAny (model prog w) A (Builtin.SmallTypes.nextOf (.ref i)) Q E s := by
  cases k with
  | l => exact wpAny_nextOf_list_item (show s.heap.IsListIter i l n from a) b c q
  | t => exact tup_item a b c q
theorem sk_end (k : SK) {i l : Nat} {n : Nat} {xs : Array Value} {Q : Value → Shared → Prop} (hh : A.handled = none) (a : k.it s.heap i l n) (b : k.sq s.heap l xs) (c : xs[n]? = none)
    (q : ∀ h' e, Heap.ExtBut i s.heap h' → (∃ o, h'.get? e = some o ∧ o.cls = .type "StopIteration") → E (.ref e) { s with heap := h' }) : wpAny (model prog w) A (Builtin.SmallTypes.nextOf (.ref i)) Q E s := by
  cases k with
  | l => exact wpAny_nextOf_list_end hh (show s.heap.IsListIter i l n from a) b c q
  | t => exact tup_end hh a b c q
theorem sk_iter (k : SK) {l : Addr} {xs : Array Value} {Q : Value → Shared → Prop} (b : k.sq s.heap l xs) (q : Q (.ref s.heap.objs.size) { s with heap := s.heap.push { cls := .type k.ty, data := .fields #[.ref l, .int 0 0] } }) :
    wpAny (model prog w) A (pyIter (.ref l)) Q E s := by
  cases k with
  | l => exact wpAny_pyIter_list (show s.heap.IsList l xs from b) q
  | t => exact wpAny_pyIter_tuple (show s.heap.IsTuple l xs from b) q

noncomputable def ZipAt (h : Heap) (n : Nat) (f0 : Value) (k1 k2 : SK) (l1 l2 : Nat) (j1 j2 : Nat) : Prop :=
  IsZip h (n + 4) (n + 2) (n + 3) f0 ∧ IsPair h (n + 2) (.ref n) (.ref (n + 1)) ∧ (∃ a b, IsPair h (n + 3) a b) ∧ k1.it h n l1 j1 ∧ k2.it h (n + 1) l2 j2
theorem sb_get {h h' : Heap} {a b : Nat} {o : Obj} (x : Heap.SameBut a h h') (n : b ≠ a) (e : h.get? b = some o) : h'.get? b = some o := (x.2 b n).trans e
theorem zip_next {n l1 l2 : Nat} {k1 k2 : SK} {j : Nat} {xs ys : Array Value} {x y : Value} {Q : Value → Shared → Prop} (Z : ZipAt s.heap n .none k1 k2 l1 l2 j j) (d1 : l1 < n) (d2 : l2 < n) (b1 : k1.sq s.heap l1 xs) (b2 : k2.sq s.heap l2 ys) (c1 : xs[j]? = some x) (c2 : ys[j]? = some y)
    (q : ∀ h', ZipAt h' n (rawInt s.heap.objs.size) k1 k2 l1 l2 (j + 1) (j + 1) → IsPair h' s.heap.objs.size x y → (∀ (c : Nat) o, c ≠ n → c ≠ n + 1 → c ≠ n + 3 → c ≠ n + 4 → s.heap.get? c = some o → h'.get? c = some o) → Q (.ref s.heap.objs.size) { s with heap := h' }) :
    wpAny (model prog w) A (Builtin.«zip.__next__» ⟨[.ref (n + 4)], []⟩) (fun fin s' => ∃ v, fin = .done (.ret v) ∧ Q v s') E s := by
  obtain ⟨hz, hI, ⟨a, b, hO⟩, i1, i2⟩ := Z
  show wpAny (model prog w) _ (field (.ref (n + 4)) 2 >>= _) _ _ _
  refine wpAny_bind (wpAny_field hz rfl (x := .bool false) rfl ?_)
  show wpAny (model prog w) _ (field (.ref (n + 4)) 3 >>= _) _ _ _
  refine wpAny_bind (wpAny_field hz rfl (x := .ref (n + 2)) rfl (wpAny_bind (wpAny_seqItems hI rfl ?_)))
  show wpAny (model prog w) _ (Builtin.SmallTypes.ownedTupleIsFree (.ref (n + 4)) >>= _) _ _ _
  refine wpAny_bind ?_
  unfold Builtin.SmallTypes.ownedTupleIsFree
  refine wpAny_bind (wpAny_field hz rfl (x := .none) rfl (wpAny_pure ?_))
  simp only [if_true]
  refine wpAny_bind (wpAny_rule (wpAny_bind (wpAny_field hz rfl (x := .ref (n + 3)) rfl (wpAny_bind (wpAny_setField_rec hz (by simp) fun h1 hz1 s1 => ?_)))))
  replace hz1 : IsZip h1 (n + 4) (n + 2) (n + 3) .ellipsis := hz1
  refine wpAny_bind ?_
  simp only [List.zipIdx_cons, List.zipIdx_nil, List.forIn_cons, List.forIn_nil]
  refine wpAny_bind (wpAny_bind (wpAny_onRaise ?_))
  show wpAny (model prog w) _ (Builtin.SmallTypes.nextOf (.ref n) >>= _) _ _ _
  refine wpAny_bind (sk_item k1 (SK.it_at i1 fun o e => sb_get s1 (by first | assumption | exact Nat.le_of_lt ‹_› | omega) e) (SK.sq_at b1 fun o e => sb_get s1 (by first | assumption | exact Nat.le_of_lt ‹_› | omega) e) c1 fun h2 i12 s2 => wpAny_pure ?_)
  have hO2 : IsPair h2 (n + 3) a b := sb_get s2 (by first | assumption | exact Nat.le_of_lt ‹_› | omega) (sb_get s1 (by first | assumption | exact Nat.le_of_lt ‹_› | omega) hO)
  refine wpAny_bind (wpAny_seqItems hO2 rfl (wpAny_bind (wpAny_updateSeq_pair hO2 fun h3 hO3 s3 => ?_)))
  replace hO3 : IsPair h3 (n + 3) x b := hO3
  refine wpAny_bind (wpAny_letGo (wpAny_pure (wpAny_bind (wpAny_bind (wpAny_onRaise ?_)))))
  show wpAny (model prog w) _ (Builtin.SmallTypes.nextOf (.ref (n + 1)) >>= _) _ _ _
  have up3 : ∀ (c : Nat) o, c ≠ n → c ≠ n + 3 → c ≠ n + 4 → s.heap.get? c = some o → h3.get? c = some o := fun c o z1 z2 z3 e => sb_get s3 z2 (sb_get s2 z1 (sb_get s1 z3 e))
  refine wpAny_bind (sk_item k2 (SK.it_at i2 fun o e => up3 _ o (by first | assumption | exact Nat.le_of_lt ‹_› | omega) (by first | assumption | exact Nat.le_of_lt ‹_› | omega) (by first | assumption | exact Nat.le_of_lt ‹_› | omega) e) (SK.sq_at b2 fun o e => up3 _ o (by first | assumption | exact Nat.le_of_lt ‹_› | omega) (by first | assumption | exact Nat.le_of_lt ‹_› | omega) (by first | assumption | exact Nat.le_of_lt ‹_› | omega) e) c2 fun h4 i24 s4 => wpAny_pure ?_)
  have hO4 : IsPair h4 (n + 3) x b := sb_get s4 (by first | assumption | exact Nat.le_of_lt ‹_› | omega) hO3
  refine wpAny_bind (wpAny_seqItems hO4 rfl (wpAny_bind (wpAny_updateSeq_pair hO4 fun h5 hO5 s5 => ?_)))
  replace hO5 : IsPair h5 (n + 3) x y := hO5
  refine wpAny_bind (wpAny_letGo (wpAny_pure (wpAny_pure (wpAny_bind (wpAny_seqItems hO5 rfl (wpAny_bind (wpAny_newTuple ?_)))))))
  have hsz : h5.objs.size = s.heap.objs.size := by rw [s5.1, s4.1, s3.1, s2.1, s1.1]
  have hz5 : IsZip h5 (n + 4) (n + 2) (n + 3) .ellipsis := sb_get s5 (by first | assumption | exact Nat.le_of_lt ‹_› | omega) (sb_get s4 (by first | assumption | exact Nat.le_of_lt ‹_› | omega) (sb_get s3 (by first | assumption | exact Nat.le_of_lt ‹_› | omega) (sb_get s2 (by first | assumption | exact Nat.le_of_lt ‹_› | omega) hz1)))
  have up5 : ∀ (c : Nat) o, c ≠ n → c ≠ n + 1 → c ≠ n + 3 → c ≠ n + 4 → s.heap.get? c = some o → h5.get? c = some o := fun c o z1 z2 z3 z4 e => sb_get s5 z3 (sb_get s4 z2 (up3 c o z1 z3 z4 e))
  have i15 : k1.it h5 n l1 (j + 1) := SK.it_at i12 fun o e => sb_get s5 (by first | assumption | exact Nat.le_of_lt ‹_› | omega) (sb_get s4 (by first | assumption | exact Nat.le_of_lt ‹_› | omega) (sb_get s3 (by first | assumption | exact Nat.le_of_lt ‹_› | omega) e))
  have i25 : k2.it h5 (n + 1) l2 (j + 1) := SK.it_at i24 fun o e => sb_get s5 (by first | assumption | exact Nat.le_of_lt ‹_› | omega) e
  have zl : n + 4 < h5.objs.size := Heap.lt_size hz5
  show wpAny (model prog w) _ (Builtin.SmallTypes.ownedTupleHandOut (.ref (n + 4)) (.ref h5.objs.size) >>= _) _ _ _
  refine wpAny_bind ?_
  unfold Builtin.SmallTypes.ownedTupleHandOut
  have hz6 : IsZip (h5.push { cls := .type "tuple", data := .seq #[x, y] }) (n + 4) (n + 2) (n + 3) .ellipsis := Heap.get?_push_of_some _ hz5
  refine wpAny_bind (wpAny_setField_rec hz6 (by simp) fun h7 hz7 s7 => ?_)
  replace hz7 : IsZip h7 (n + 4) (n + 2) (n + 3) (rawInt h5.objs.size) := hz7
  refine wpAny_setField_rec hz7 (by simp) fun h8 hz8 s8 => ?_
  replace hz8 : IsZip h8 (n + 4) (n + 2) (n + 3) (rawInt h5.objs.size) := hz8
  have up : ∀ (c : Nat) o, c ≠ n + 4 → h5.get? c = some o → h8.get? c = some o := fun c o z e => sb_get s8 z (sb_get s7 z (Heap.get?_push_of_some _ e))
  have hT : IsPair h8 h5.objs.size x y := sb_get s8 (by first | assumption | exact Nat.le_of_lt ‹_› | omega) (sb_get s7 (by first | assumption | exact Nat.le_of_lt ‹_› | omega) (Heap.get?_push_size _ rfl))
  rw [hsz] at hz8 hT
  refine wpAny_pure ⟨_, rfl, ?_⟩
  show Q (.ref h5.objs.size) _
  rw [hsz]
  exact q h8 ⟨hz8, up _ _ (by first | assumption | exact Nat.le_of_lt ‹_› | omega) (up5 _ _ (by first | assumption | exact Nat.le_of_lt ‹_› | omega) (by first | assumption | exact Nat.le_of_lt ‹_› | omega) (by first | assumption | exact Nat.le_of_lt ‹_› | omega) (by first | assumption | exact Nat.le_of_lt ‹_› | omega) hI), ⟨x, y, up _ _ (by first | assumption | exact Nat.le_of_lt ‹_› | omega) hO5⟩, SK.it_at i15 fun o e => up _ o (by first | assumption | exact Nat.le_of_lt ‹_› | omega) e, SK.it_at i25 fun o e => up _ o (by first | assumption | exact Nat.le_of_lt ‹_› | omega) e⟩ hT fun c o z1 z2 z3 z4 e => up c o z4 (up5 c o z1 z2 z3 z4 e)
theorem zip_over {n l1 l2 : Nat} {k1 k2 : SK} {j : Nat} {xs ys : Array Value} {Q : Fin → Shared → Prop} (hh : A.handled = none) (Z : ZipAt s.heap n .none k1 k2 l1 l2 j j) (d1 : l1 < n) (d2 : l2 < n) (b1 : k1.sq s.heap l1 xs) (b2 : k2.sq s.heap l2 ys) (c : xs[j]? = none ∨ ys[j]? = none)
    (q : ∀ h' e, (∀ (c : Nat) o, c ≠ n → c ≠ n + 1 → c ≠ n + 3 → c ≠ n + 4 → s.heap.get? c = some o → h'.get? c = some o) → (∃ o, h'.get? e = some o ∧ o.cls = .type "StopIteration") → E (.ref e) { s with heap := h' }) :
    wpAny (model prog w) A (Builtin.«zip.__next__» ⟨[.ref (n + 4)], []⟩) Q E s := by
  obtain ⟨hz, hI, ⟨a, b, hO⟩, i1, i2⟩ := Z
  show wpAny (model prog w) _ (field (.ref (n + 4)) 2 >>= _) _ _ _
  refine wpAny_bind (wpAny_field hz rfl (x := .bool false) rfl ?_)
  show wpAny (model prog w) _ (field (.ref (n + 4)) 3 >>= _) _ _ _
  refine wpAny_bind (wpAny_field hz rfl (x := .ref (n + 2)) rfl (wpAny_bind (wpAny_seqItems hI rfl ?_)))
  show wpAny (model prog w) _ (Builtin.SmallTypes.ownedTupleIsFree (.ref (n + 4)) >>= _) _ _ _
  refine wpAny_bind ?_
  unfold Builtin.SmallTypes.ownedTupleIsFree
  refine wpAny_bind (wpAny_field hz rfl (x := .none) rfl (wpAny_pure ?_))
  simp only [if_true]
  refine wpAny_bind (wpAny_rule (wpAny_bind (wpAny_field hz rfl (x := .ref (n + 3)) rfl (wpAny_bind (wpAny_setField_rec hz (by simp) fun h1 hz1 s1 => ?_)))))
  replace hz1 : IsZip h1 (n + 4) (n + 2) (n + 3) .ellipsis := hz1
  refine wpAny_bind ?_
  simp only [List.zipIdx_cons, List.zipIdx_nil, List.forIn_cons, List.forIn_nil]
  refine wpAny_bind (wpAny_bind (wpAny_onRaise ?_))
  show wpAny (model prog w) _ (Builtin.SmallTypes.nextOf (.ref n) >>= _) _ _ _
  have nz : ∀ {h : Heap} {e : Nat} {o : Obj} {f : Value}, IsZip h (n + 4) (n + 2) (n + 3) f → h.get? e = some o → o.cls = .type "StopIteration" → e ≠ n + 4 := fun {h e o f} u v t z => by
    subst z
    have u : h.get? (n + 4) = some _ := u
    rw [u] at v
    cases v
    simp at t
  cases c1 : xs[j]? with
  | none =>
    refine wpAny_bind (sk_end k1 hh (SK.it_at i1 fun o e => sb_get s1 (by first | assumption | exact Nat.le_of_lt ‹_› | omega) e) (SK.sq_at b1 fun o e => sb_get s1 (by first | assumption | exact Nat.le_of_lt ‹_› | omega) e) c1 fun h2 e s2 ⟨oe, g1, g2⟩ => ?_)
    have hz2 : IsZip h2 (n + 4) (n + 2) (n + 3) .ellipsis := s2 _ _ (show n + 4 ≠ n by omega) hz1
    exact wpAny_setField_rec hz2 (by simp) fun h3 _ s3 => q h3 e (fun c o z1 z2 z3 z4 u => sb_get s3 z4 (s2 _ _ z1 (sb_get s1 z4 u))) ⟨oe, sb_get s3 (nz hz2 g1 g2) g1, g2⟩
  | some x =>
    have c2 : ys[j]? = none := by
      rcases c with c | c
      · rw [c1] at c; cases c
      · exact c
    refine wpAny_bind (sk_item k1 (SK.it_at i1 fun o e => sb_get s1 (by first | assumption | exact Nat.le_of_lt ‹_› | omega) e) (SK.sq_at b1 fun o e => sb_get s1 (by first | assumption | exact Nat.le_of_lt ‹_› | omega) e) c1 fun h2 i12 s2 => wpAny_pure ?_)
    have hO2 : IsPair h2 (n + 3) a b := sb_get s2 (by first | assumption | exact Nat.le_of_lt ‹_› | omega) (sb_get s1 (by first | assumption | exact Nat.le_of_lt ‹_› | omega) hO)
    refine wpAny_bind (wpAny_seqItems hO2 rfl (wpAny_bind (wpAny_updateSeq_pair hO2 fun h3 hO3 s3 => ?_)))
    refine wpAny_bind (wpAny_letGo (wpAny_pure (wpAny_bind (wpAny_bind (wpAny_onRaise ?_)))))
    show wpAny (model prog w) _ (Builtin.SmallTypes.nextOf (.ref (n + 1)) >>= _) _ _ _
    have up3 : ∀ (c : Nat) o, c ≠ n → c ≠ n + 3 → c ≠ n + 4 → s.heap.get? c = some o → h3.get? c = some o := fun c o z1 z2 z3 e => sb_get s3 z2 (sb_get s2 z1 (sb_get s1 z3 e))
    refine wpAny_bind (sk_end k2 hh (SK.it_at i2 fun o e => up3 _ o (by first | assumption | exact Nat.le_of_lt ‹_› | omega) (by first | assumption | exact Nat.le_of_lt ‹_› | omega) (by first | assumption | exact Nat.le_of_lt ‹_› | omega) e) (SK.sq_at b2 fun o e => up3 _ o (by first | assumption | exact Nat.le_of_lt ‹_› | omega) (by first | assumption | exact Nat.le_of_lt ‹_› | omega) (by first | assumption | exact Nat.le_of_lt ‹_› | omega) e) c2 fun h4 e s4 ⟨oe, g1, g2⟩ => ?_)
    have hz4 : IsZip h4 (n + 4) (n + 2) (n + 3) .ellipsis := s4 _ _ (show n + 4 ≠ n + 1 by omega) (sb_get s3 (by first | assumption | exact Nat.le_of_lt ‹_› | omega) (sb_get s2 (by first | assumption | exact Nat.le_of_lt ‹_› | omega) hz1))
    exact wpAny_setField_rec hz4 (by simp) fun h5 _ s5 => q h5 e (fun c o z1 z2 z3 z4 u => sb_get s5 z4 (s4 _ _ z2 (up3 c o z1 z3 z4 u))) ⟨oe, sb_get s5 (nz hz4 g1 g2) g1, g2⟩
theorem pyNext_zip {n l1 l2 : Nat} {k1 k2 : SK} {j : Nat} {xs ys : Array Value} {x y : Value} {Q : Option Value → Shared → Prop} (Z : ZipAt s.heap n .none k1 k2 l1 l2 j j) (d1 : l1 < n) (d2 : l2 < n) (b1 : k1.sq s.heap l1 xs) (b2 : k2.sq s.heap l2 ys) (c1 : xs[j]? = some x) (c2 : ys[j]? = some y)
    (q : ∀ h', ZipAt h' n (rawInt s.heap.objs.size) k1 k2 l1 l2 (j + 1) (j + 1) → IsPair h' s.heap.objs.size x y → (∀ (c : Nat) o, c ≠ n → c ≠ n + 1 → c ≠ n + 3 → c ≠ n + 4 → s.heap.get? c = some o → h'.get? c = some o) → Q (some (.ref s.heap.objs.size)) { s with heap := h' }) :
    wpAny (model prog w) A (pyNext (.ref (n + 4))) Q E s := by
  have T : s.TypeIs (.ref (n + 4)) "zip" := ⟨_, Z.1, rfl⟩
  unfold pyNext
  refine wpAny_bind (wpAny_attempt (wpAny_callSpecial?_slot (name := Str.ofString "__next__") T F.slot_zip_next (wpAny_call_entry F.slot_zip_next T F.entry_zip_next ?_ (F.args_zip_next_1 _))))
  exact zip_next Z d1 d2 b1 b2 c1 c2 fun h' a1 a2 a3 => wpAny_pure (q h' a1 a2 a3)
theorem pyNext_zip_over {n l1 l2 : Nat} {k1 k2 : SK} {j : Nat} {xs ys : Array Value} {Q : Option Value → Shared → Prop} (hh : A.handled = none) (Z : ZipAt s.heap n .none k1 k2 l1 l2 j j) (d1 : l1 < n) (d2 : l2 < n) (b1 : k1.sq s.heap l1 xs) (b2 : k2.sq s.heap l2 ys) (c : xs[j]? = none ∨ ys[j]? = none)
    (q : ∀ h', (∀ (c : Nat) o, c ≠ n → c ≠ n + 1 → c ≠ n + 3 → c ≠ n + 4 → s.heap.get? c = some o → h'.get? c = some o) → Q none { s with heap := h' }) : wpAny (model prog w) A (pyNext (.ref (n + 4))) Q E s := by
  have T : s.TypeIs (.ref (n + 4)) "zip" := ⟨_, Z.1, rfl⟩
  unfold pyNext
  refine wpAny_bind (wpAny_attempt (wpAny_callSpecial?_slot (name := Str.ofString "__next__") T F.slot_zip_next (wpAny_call_entry F.slot_zip_next T F.entry_zip_next ?_ (F.args_zip_next_1 _))))
  refine zip_over hh Z d1 d2 b1 b2 c ?_
  rintro h' e kk ⟨o, g1, g2⟩
  exact wpAny_bind (wpAny_isInstance (T := "StopIteration") (b := true) ⟨o, g1, g2⟩ isSubtype_stop (wpAny_pure (q _ kk)))
noncomputable abbrev zq1 (k1 : SK) (h : Heap) (l1 : Addr) : Heap := h.push { cls := .type k1.ty, data := .fields #[.ref l1, .int 0 0] }
noncomputable abbrev zq2 (k1 k2 : SK) (h : Heap) (l1 l2 : Addr) : Heap := (zq1 k1 h l1).push { cls := .type k2.ty, data := .fields #[.ref l2, .int 0 0] }
noncomputable abbrev zq3 (k1 k2 : SK) (h : Heap) (l1 l2 : Addr) : Heap := (zq2 k1 k2 h l1 l2).push { cls := .type "tuple", data := .seq #[.ref h.objs.size, .ref (zq1 k1 h l1).objs.size] }
noncomputable abbrev zq4 (k1 k2 : SK) (h : Heap) (l1 l2 : Addr) : Heap := (zq3 k1 k2 h l1 l2).push { cls := .type "tuple", data := .seq #[.none, .none] }
noncomputable abbrev zq5 (k1 k2 : SK) (h : Heap) (l1 l2 : Addr) : Heap := (zq4 k1 k2 h l1 l2).push { cls := .type "zip", data := .fields #[.none, .bool false, .bool false, .ref (zq2 k1 k2 h l1 l2).objs.size, .ref (zq3 k1 k2 h l1 l2).objs.size] }
theorem zip_new (k1 k2 : SK) (l1 l2 : Addr) (xs ys : Array Value) :
    Meets (Builtin.«zip.__new__» ⟨[.type "zip", .ref l1, .ref l2], []⟩) (fun _ R s => k1.sq s.heap l1 xs ∧ k2.sq s.heap l2 ys ∧ R (.ok (.ret (.ref (zq4 k1 k2 s.heap l1 l2).objs.size))) { s with heap := zq5 k1 k2 s.heap l1 l2 }) :=
  .of_wp fun prog w A R s h => by
    obtain ⟨hp, g, d, tk, os⟩ := s
    obtain ⟨hl1, hl2, h⟩ := h
    have hsub := sub_zip
    have g1 : k1.sq (Shared.heap ⟨hp, g, d, tk, os⟩) l1 xs := hl1
    have g2 : k2.sq (Shared.heap ⟨hp.push { cls := .type k1.ty, data := .fields #[.ref l1, .int 0 0] }, g, d, tk, os⟩) l2 ys := SK.sq_at hl2 fun o e => Heap.get?_push_of_some _ e
    wp_walk using sk_iter k1 g1, sk_iter k2 g2
    exact ⟨_, rfl, h⟩
theorem call_zip {k1 k2 : SK} {l1 l2 : Addr} {xs ys : Array Value} {Q : Value → Shared → Prop} (b1 : k1.sq s.heap l1 xs) (b2 : k2.sq s.heap l2 ys)
    (q : ∀ h', ZipAt h' s.heap.objs.size .none k1 k2 l1 l2 0 0 → (∀ c o, s.heap.get? c = some o → h'.get? c = some o) → Q (.ref (s.heap.objs.size + 4)) { s with heap := h' }) :
    wpAny (model prog w) A (call (.type "zip") [.ref l1, .ref l2]) Q E s := by
  refine callType_new F.called_zip (by decide) (F.typeCall_zip_2 _ _) (F.newCall_zip_2 _ _) (fun obj => F.args_object_init_3 obj _ _) F.entry_zip_new (zip_new k1 k2 l1 l2 xs ys) ⟨b1, b2, ?_⟩
  have z1 : (zq1 k1 s.heap l1).objs.size = s.heap.objs.size + 1 := Heap.size_push ..
  have z2 : (zq2 k1 k2 s.heap l1 l2).objs.size = s.heap.objs.size + 2 := by rw [Heap.size_push, z1]
  have z3 : (zq3 k1 k2 s.heap l1 l2).objs.size = s.heap.objs.size + 3 := by rw [Heap.size_push, z2]
  have z4 : (zq4 k1 k2 s.heap l1 l2).objs.size = s.heap.objs.size + 4 := by rw [Heap.size_push, z3]
  have p1 : ∀ {b o} (x : Obj) {h : Heap}, h.get? b = some o → (h.push x).get? b = some o := fun {b o} x {h} e => Heap.get?_push_of_some _ e
  have g5 : (zq5 k1 k2 s.heap l1 l2).get? (zq4 k1 k2 s.heap l1 l2).objs.size = some _ := Heap.get?_push_size _ rfl
  have g4 : (zq5 k1 k2 s.heap l1 l2).get? (zq3 k1 k2 s.heap l1 l2).objs.size = some _ := p1 _ (Heap.get?_push_size _ rfl)
  have g3 : (zq5 k1 k2 s.heap l1 l2).get? (zq2 k1 k2 s.heap l1 l2).objs.size = some _ := p1 _ (p1 _ (Heap.get?_push_size _ rfl))
  have g2 : (zq5 k1 k2 s.heap l1 l2).get? (zq1 k1 s.heap l1).objs.size = some _ := p1 _ (p1 _ (p1 _ (Heap.get?_push_size _ rfl)))
  have g1 : (zq5 k1 k2 s.heap l1 l2).get? s.heap.objs.size = some _ := p1 _ (p1 _ (p1 _ (p1 _ (Heap.get?_push_size _ rfl))))
  show _ ∧ _
  rw [z2, z3, z4] at g5
  rw [z1, z2] at g3
  rw [z3] at g4
  rw [z1] at g2
  rw [z4]
  exact ⟨⟨_, g5, rfl⟩, q _ ⟨g5, g3, ⟨_, _, g4⟩, ⟨_, g1, rfl, rfl⟩, ⟨_, g2, rfl, rfl⟩⟩ fun c o x => p1 _ (p1 _ (p1 _ (p1 _ (p1 _ x))))⟩
end
end PD

set_option Elab.async false
set_option linter.all false
set_option maxRecDepth 100000
namespace PD
open PySem PySem.Spec L2 PyProof.Rows

noncomputable def SqK (k : SK) (K : PySem.W.Frag) (H : Hp) (a : Addr) (xs : List V) : Prop := match k with
  | .l => SqL K H a xs
  | .t => SqT K H a xs
theorem SqK.same {k : SK} {K : PySem.W.Frag} {H H' : Hp} {a : Addr} {xs : List V} (e : Same H H') (h : SqK k K H a xs) : SqK k K H' a xs := by
  cases k with
  | l => exact Same.sqL e h
  | t => exact Same.sqT e h
section
variable {X : Cx} {pins : List (Addr × Obj)} {σ : L2.St} {H : Hp} {s : Shared} {k : SK} {a : Addr} {xs ys : List V}
theorem inv_sq (I : Inv X pins σ H s) (h : SqK k X.K H a xs) : ∃ its : List Value, Vals xs its ∧ k.sq s.heap a its.toArray := by
  cases k with
  | l => exact let ⟨its, rv, p, _⟩ := I.list h; ⟨its, rv, p.isList⟩
  | t => exact let ⟨its, rv, p, _⟩ := I.tuple h; ⟨its, rv, p⟩
theorem inv_sqI (I : Inv X pins σ H s) (h : SqK k X.K H a xs) (h' : SqK k X.K H a ys) : xs = ys := by
  cases k with
  | l => exact I.list_inj h h'
  | t => exact I.tuple_inj h h'
theorem sq_lt {k : SK} {h : Heap} {a : Addr} {xs : Array Value} (x : k.sq h a xs) : a < h.objs.size := by
  cases k <;> exact let ⟨_, e, _⟩ := x; Heap.lt_size e
end
noncomputable def Itz (K : PySem.W.Frag) (k1 k2 : SK) (l1 l2 : Addr) : It :=
  ⟨fun i H => ∃ xs ys x y, SqK k1 K H l1 xs ∧ SqK k2 K H l2 ys ∧ xs[i]? = some x ∧ ys[i]? = some y,
   fun i H x H' => ∃ p v u, x = .ref p ∧ H p = none ∧ H' = upd H p (.tup [v, u]) ∧ (∀ xs, SqK k1 K H l1 xs → xs[i]? = some v) ∧ (∀ ys, SqK k2 K H l2 ys → ys[i]? = some u),
   fun i H => ∃ xs ys, SqK k1 K H l1 xs ∧ SqK k2 K H l2 ys ∧ (xs.length ≤ i ∨ ys.length ≤ i)⟩
noncomputable abbrev zfp (n : Nat) : List Nat := [n + 4, n, n + 1, n + 2, n + 3]
theorem zfp_le {n b : Nat} (h : b ∈ zfp n) : n ≤ b ∧ b ≤ n + 4 := by
  simp only [zfp, List.mem_cons, List.not_mem_nil, or_false] at h
  omega
theorem zfp_not {n c : Nat} (h : c ∉ zfp n) : c ≠ n ∧ c ≠ n + 1 ∧ c ≠ n + 3 ∧ c ≠ n + 4 := by
  refine ⟨fun z => h ?_, fun z => h ?_, fun z => h ?_, fun z => h ?_⟩ <;> subst z <;> simp [zfp]
theorem turn_zip {P : Program} {w : World} {K : PySem.W.Frag} {elts : List Expr} {ctx} {pos : Pos} (k1 k2 : SK) (n l1 l2 : Nat) (d1 : l1 < n) (d2 : l2 < n) :
    Turn P w K (.Tuple elts ctx pos) (Itz K k1 k2 l1 l2) (zfp n) (n + 4) (fun i h => ZipAt h n .none k1 k2 l1 l2 i i) where
  mem := by simp [zfp]
  obj := fun i h Z b hb => by
    obtain ⟨hz, hI, ⟨a, c, hO⟩, ⟨o1, e1, _, f1⟩, ⟨o2, e2, _, f2⟩⟩ := Z
    simp only [zfp, List.mem_cons, List.not_mem_nil, or_false] at hb
    rcases hb with rfl | rfl | rfl | rfl | rfl
    · exact ⟨_, hz, fun v z => by have z : Data.fields _ = Data.cell v := z; cases z⟩
    · exact ⟨o1, e1, fun v z => by rw [f1] at z; cases z⟩
    · exact ⟨o2, e2, fun v z => by rw [f2] at z; cases z⟩
    · exact ⟨_, hI, fun v z => by have z : Data.seq _ _ = Data.cell v := z; cases z⟩
    · exact ⟨_, hO, fun v z => by have z : Data.seq _ _ = Data.cell v := z; cases z⟩
  keep := fun i h h' Z kk => by
    obtain ⟨hz, hI, ⟨a, c, hO⟩, i1, i2⟩ := Z
    exact ⟨kk _ (by simp [zfp]) _ hz, kk _ (by simp [zfp]) _ hI, ⟨a, c, kk _ (by simp [zfp]) _ hO⟩, SK.it_at i1 fun o e => kk _ (by simp [zfp]) o e, SK.it_at i2 fun o e => kk _ (by simp [zfp]) o e⟩
  item := by
    intro X hP hw hK hc i pins s σ H E I hf Z hg
    subst hP hw hK
    obtain ⟨xs, ys, x, y, q1, q2, hx, hy⟩ := hg
    obtain ⟨its1, rv1, p1⟩ := inv_sq I q1
    obtain ⟨its2, rv2, p2⟩ := inv_sq I q2
    obtain ⟨u1, hu1, ru1⟩ := rv1.get hx
    obtain ⟨u2, hu2, ru2⟩ := rv2.get hy
    refine pyNext_zip Z d1 d2 p1 p2 (x := u1) (y := u2) (by simpa using hu1) (by simpa using hu2) fun h1 Z1 hT1 kk1 => ⟨_, rfl, ?_⟩
    refine wpAny_letOwnedTupleGo_zip (s := { s with heap := h1 }) Z1.1 fun h2 hz2 s2 => ?_
    replace s2 : Heap.SameBut (n + 4) h1 h2 := s2
    have hp : H s.heap.objs.size = none := I.fresh
    have lt4 : n + 4 < s.heap.objs.size := Heap.lt_size Z.1
    have kp : ∀ c o, c ∉ zfp n → s.heap.get? c = some o → h2.get? c = some o := fun c o hc e => by
      obtain ⟨z1, z2, z3, z4⟩ := zfp_not hc
      exact sb_get s2 z4 (kk1 c o z1 z2 z3 z4 e)
    have nfp : ∀ b o, H b = some o → b ∉ zfp n := fun b o e hb => by rw [(hf b hb).1] at e; cases e
    have ne : ∀ b o, H b = some o → b ≠ s.heap.objs.size := fun b o e => ne_of_none e hp
    have hT2 : IsPair h2 s.heap.objs.size u1 u2 := sb_get s2 (by first | assumption | exact Nat.le_of_lt ‹_› | omega) hT1
    have un : Un (frs X.stack) (zfp n) H (upd H s.heap.objs.size (.tup [x, y])) s.heap h2 :=
      ⟨fun b o e _ _ hc => kp b o hc e, fun b o e _ _ hc => ⟨o.slots, kp b o hc e⟩, fun b o e nn _ => by rw [upd_ne (Nat.ne_of_lt (Heap.lt_size e))]; exact nn, fun b o e hc => ⟨o, kp b o hc e⟩,
       fun b zs e => by rw [upd_ne (ne b _ e)]; exact e, fun b o u e => by rw [upd_ne (ne b _ e)]; exact e, fun b ps e => ⟨#[], by rw [upd_ne (ne b _ e), e]; simp⟩⟩
    have hok : HOk X.prog X.w (upd H s.heap.objs.size (.tup [x, y])) h2 := fun b o e => by
      by_cases hb : b = s.heap.objs.size
      · subst hb
        rw [upd_same] at e
        cases e
        exact ⟨show 2 ≤ sizeLine by decide, [u1, u2], .cons ru1 (.cons ru2 .nil), ⟨_, hT2, rfl, _, rfl⟩⟩
      · rw [upd_ne hb] at e
        refine (I.hok b o e).stay (fun c v hc q => kp c v ?_ q) (fun c z => by rw [upd_ne (ne c _ z)]; exact z) fun c zs z => by rw [upd_ne (ne c _ z)]; exact z
        rcases hc with rfl | hc
        · exact nfp _ _ e
        · exact nfp _ _ hc
    have I2 := Inv.call (s := s) I (h' := h2) (g' := s.gens) (d' := s.drawn) (t' := s.toks) (ch := zfp n) un hok I.bare fun b hb => let ⟨_, f1, _, f3, f4, f5⟩ := hf b hb; ⟨f3, f1, f4, f5⟩
    obtain ⟨_, hI1, ⟨a, c, hO1⟩, j1, j2⟩ := Z1
    refine ⟨.ref s.heap.objs.size, _, I2, rfl, ⟨_, x, y, rfl, hp, rfl, fun zs hz => by rw [inv_sqI I hz q1]; exact hx, fun zs hz => by rw [inv_sqI I hz q2]; exact hy⟩,
      ⟨hz2, sb_get s2 (by first | assumption | exact Nat.le_of_lt ‹_› | omega) hI1, ⟨a, c, sb_get s2 (by first | assumption | exact Nat.le_of_lt ‹_› | omega) hO1⟩, SK.it_at j1 fun o e => sb_get s2 (by first | assumption | exact Nat.le_of_lt ‹_› | omega) e, SK.it_at j2 fun o e => sb_get s2 (by first | assumption | exact Nat.le_of_lt ‹_› | omega) e⟩, fun b hb => ?_⟩
    rw [upd_ne (Nat.ne_of_lt (Nat.lt_of_le_of_lt (zfp_le hb).2 lt4))]
    exact (hf b hb).1
  done := by
    intro X hP hw hK hc i pins s σ H E I hf Z hg
    subst hP hw hK
    obtain ⟨xs, ys, q1, q2, hx⟩ := hg
    obtain ⟨its1, rv1, p1⟩ := inv_sq I q1
    obtain ⟨its2, rv2, p2⟩ := inv_sq I q2
    have e1 := rv1.length
    have e2 := rv2.length
    refine pyNext_zip_over (I.ok.hd hc) Z d1 d2 p1 p2 ?_ fun h' kk => ⟨rfl, ?_⟩
    · rcases hx with hx | hx
      · exact .inl (by simp; omega)
      · exact .inr (by simp; omega)
    · have kp : ∀ c o, c ∉ zfp n → s.heap.get? c = some o → h'.get? c = some o := fun c o hc e => by
        obtain ⟨z1, z2, z3, z4⟩ := zfp_not hc
        exact kk c o z1 z2 z3 z4 e
      have nfp : ∀ b o, H b = some o → b ∉ zfp n := fun b o e hb => by rw [(hf b hb).1] at e; cases e
      refine Inv.call (s := s) I (h' := h') (g' := s.gens) (d' := s.drawn) (t' := s.toks) (ch := zfp n) ⟨fun b o e _ _ hc => kp b o hc e, fun b o e _ _ hc => ⟨o.slots, kp b o hc e⟩, fun b o e nn _ => nn, fun b o e hc => ⟨o, kp b o hc e⟩, fun _ _ e => e, fun _ _ _ e => e, fun b ps e => ⟨#[], by rw [e]; simp⟩⟩
        (fun b o e => (I.hok b o e).stay (fun c v hc q => kp c v (by rcases hc with rfl | hc; exact nfp _ _ e; exact nfp _ _ hc) q) (fun _ z => z) fun _ _ z => z) I.bare fun b hb => let ⟨_, f1, _, f3, f4, f5⟩ := hf b hb; ⟨f3, f1, f4, f5⟩
  self := fun _ _ _ _ _ Z h => wpAny_pyIter_zip Z.1 h

section
variable {X : Cx} {a b : Expr} {elts : List Expr} {ctx} {p pos tpos : Pos}
noncomputable def iZip (K : PySem.W.Frag) (ta : TA) : TI := fun σ H R => ta σ H fun vs H1 => ∃ k1 k2 l1 l2, vs = [.ref l1, .ref l2] ∧ (∃ xs, SqK k1 K H1 l1 xs) ∧ (∃ ys, SqK k2 K H1 l2 ys) ∧ R (Itz K k1 k2 l1 l2) H1
theorem pi_zip {ta : TA} (hg : Gl X "zip") (hm : X.mg "zip" = none) (ha : PA X [a, b] ta) (hs : starEach [a, b] X.env = [(false, eval a X.env), (false, eval b X.env)] := by rw [star_cons rfl, star_cons rfl]; rfl) (hs2 : starEach [b] X.env = [(false, eval b X.env)] := by exact star_cons rfl) :
    PI X (.Tuple elts ctx tpos) (.Call (.Name "zip" p) [a, b] [] pos) (iZip X.K ta) := by
  intro pins s σ H R I h
  refine Call_ (ld_blt I hg hm boot_zip (PyProof.Rows.callWith_type1 (thn (ha pos pins s σ H _ I h) fun us s1 ⟨vs, H1, I1, r1, q1⟩ => ?_) (by rw [hs, hs2]) (by rw [hs2]; rfl)))
  obtain ⟨k1, k2, l1, l2, e, ⟨xs, h1⟩, ⟨ys, h2⟩, q⟩ := q1
  subst e
  obtain ⟨u, z, rfl, ru, rz⟩ := vals2 r1
  cases (show u = Value.ref l1 from ru)
  cases (show z = Value.ref l2 from rz)
  obtain ⟨its1, rv1, p1⟩ := inv_sq I1 h1
  obtain ⟨its2, rv2, p2⟩ := inv_sq I1 h2
  refine call_zip p1 p2 fun h' Z kk => wpAny_pyIter_zip Z.1 ?_
  refine ⟨s1.heap.objs.size + 4, zfp s1.heap.objs.size, _, _, H1, rfl, I1.kept (t' := s1.toks) kk, turn_zip k1 k2 s1.heap.objs.size l1 l2 (sq_lt p1) (sq_lt p2), Z, fun c hc => ?_, q⟩
  have hl : s1.heap.objs.size ≤ c := (zfp_le hc).1
  exact I1.fpOk hl (I1.hok.fresh hl)
noncomputable def pairD (xs ys : List D) : List D := List.zipWith (fun a b => D.tup [a, b]) xs ys
noncomputable def zipD : List D → Option (List D)
  | [x, y] => (seqD x).bind fun xs => (seqD y).bind fun ys => some (pairD xs ys)
  | _ => none
theorem itz_is {K : PySem.W.Frag} {G B : Hp} {k1 k2 : SK} {l1 l2 : Addr} {xs ys : List V} {ds es : List D} (h1 : SqK k1 K B l1 xs) (r1 : Reps K G xs ds) (h2 : SqK k2 K B l2 ys) (r2 : Reps K G ys es) : ItIs K G B (Itz K k1 k2 l1 l2) (pairD ds es) where
  go := fun i H s hi => by
    have hi : i < min ds.length es.length := by simpa [pairD] using hi
    have e1 := r1.length
    have e2 := r2.length
    exact ⟨xs, ys, xs[i]'(by first | assumption | exact Nat.le_of_lt ‹_› | omega), ys[i]'(by first | assumption | exact Nat.le_of_lt ‹_› | omega), SqK.same s h1, SqK.same s h2, List.getElem?_eq_getElem _, List.getElem?_eq_getElem _⟩
  yld := fun i H x H' Gc s g gh hi y => by
    obtain ⟨p, v, u, rfl, hp, rfl, y1, y2⟩ := y
    obtain ⟨d1, e1, q1⟩ := r1.get' (y1 xs (SqK.same s h1))
    obtain ⟨d2, e2, q2⟩ := r2.get' (y2 ys (SqK.same s h2))
    have x3 := Ext.new gh hp (.tup [v, u])
    refine ⟨upd Gc p (.tup [v, u]), .tup [d1, d2], x3, ?_, .tup (SqT.of upd_same) (.cons (q1.mono (g.trans x3.gg)) (.cons (q2.mono (g.trans x3.gg)) .nil))⟩
    unfold pairD
    rw [List.getElem?_zipWith, e1, e2]
  stop := fun H s => by
    refine ⟨xs, ys, SqK.same s h1, SqK.same s h2, ?_⟩
    have e1 := r1.length
    have e2 := r2.length
    simp only [pairD, List.length_zipWith]
    omega
theorem rep_sq {K : PySem.W.Frag} {G H : Hp} {v : V} {x : D} {xs : List D} (gh : Same G H) (r : RepP K G H v x) (e : seqD x = some xs) : ∃ k a vs, v = .ref a ∧ SqK k K H a vs ∧ Reps K G vs xs := by
  cases x with
  | tup ds => cases e; exact let ⟨a, vs, h1, h2, h3, _⟩ := r.tup_inv gh; ⟨.t, a, vs, h1, h2, h3⟩
  | lst ds => cases e; exact let ⟨a, vs, h1, h2, h3⟩ := r.lst_inv gh; ⟨.l, a, vs, h1, h2, h3⟩
  | _ => cases e
theorem zipD_inv {ds zs : List D} (h : zipD ds = some zs) : ∃ x y xs ys, ds = [x, y] ∧ seqD x = some xs ∧ seqD y = some ys ∧ zs = pairD xs ys := by
  unfold zipD at h
  split at h
  · obtain ⟨xs, e1, h⟩ := bind_some' h
    obtain ⟨ys, e2, h⟩ := bind_some' h
    cases h
    exact ⟨_, _, xs, ys, rfl, e1, e2, rfl⟩
  · cases h
variable {fs : Rho → Option (List D)}
theorem ir_zip (hg : Gl X "zip") (hm : X.mg "zip" = none) (ha : Ar X [a, b] fs) (hs : starEach [a, b] X.env = [(false, eval a X.env), (false, eval b X.env)] := by rw [star_cons rfl, star_cons rfl]; rfl) (hs2 : starEach [b] X.env = [(false, eval b X.env)] := by exact star_cons rfl) :
    Ir X (.Tuple elts ctx tpos) (.Call (.Name "zip" p) [a, b] [] pos) (b1 fs zipD) := pi_imp (pi_zip hg hm ha hs hs2) <| by
  rintro σ H R ⟨ρ, G0, H0, G, zs, E, hf, k⟩
  obtain ⟨ds, e1, e2⟩ := b1_some hf
  obtain ⟨x, y, xs, ys, rfl, q1, q2, rfl⟩ := zipD_inv e2
  refine ⟨ρ, G0, H0, G, _, E, e1, fun vs H1 G1 x1 r1 => ?_⟩
  obtain ⟨v, u, rfl, rv, ru⟩ := r1.two
  obtain ⟨k1, l1, us, rfl, s1, t1⟩ := rep_sq x1.gh rv q1
  obtain ⟨k2, l2, ws, rfl, s2, t2⟩ := rep_sq x1.gh ru q2
  exact ⟨k1, k2, l1, l2, rfl, ⟨_, s1⟩, ⟨_, s2⟩, k _ H1 G1 H1 x1 (Same.refl _) (itz_is s1 t1 s2 t2)⟩
end

noncomputable def intsD : List D → Option (List Int)
  | [] => some []
  | .int i :: ds => (intsD ds).bind fun is => some (i :: is)
  | _ => none
theorem intsD_map (is : List Int) : intsD (is.map D.int) = some is := by
  induction is with
  | nil => rfl
  | cons i is ih => simp [intsD, ih]
noncomputable def sumD : List D → Option D
  | [x] => (seqD x).bind fun ds => (intsD ds).bind fun is => some (.int is.sum)
  | _ => none
theorem intsD_vals {K : PySem.W.Frag} {G : Hp} {ds : List D} : ∀ {is : List Int} {vs : List V} {us : List Value}, intsD ds = some is → Reps K G vs ds → Vals vs us → ∀ (i : Nat) (v : Value), us.toArray[i]? = some v → ∃ t, v = Value.int (is.getD i 0) t := by
  induction ds with
  | nil => intro is vs us h r v' i v e; cases r; cases v'; simp at e
  | cons d ds ih =>
    intro is vs us h r v' i v e
    cases r with
    | cons r rs =>
      cases v' with
      | cons t ts =>
        cases d with
        | int j =>
          obtain ⟨is', h1, h2⟩ := bind_some' (show (intsD ds).bind _ = some is from h)
          cases h2
          cases r
          obtain ⟨tk, rfl⟩ := t
          cases i with
          | zero => simp at e; exact ⟨tk, by rw [← e]; rfl⟩
          | succ i =>
            obtain ⟨t', e'⟩ := ih h1 rs ts i v (by simpa using e)
            exact ⟨t', by simpa using e'⟩
        | _ => cases h
theorem intsD_len : ∀ {ds : List D} {is : List Int}, intsD ds = some is → is.length = ds.length
  | [], is, h => by cases h; rfl
  | .int j :: ds, is, h => by
    obtain ⟨is', h1, h2⟩ := bind_some' (show (intsD ds).bind _ = some is from h)
    cases h2
    simp [intsD_len h1]
  | .non :: _, _, h => by cases h
  | .bl _ :: _, _, h => by cases h
  | .str _ :: _, _, h => by cases h
  | .tup _ :: _, _, h => by cases h
  | .lst _ :: _, _, h => by cases h
theorem presum (is : List Int) : preSum (fun i => is.getD i 0) is.length = is.sum := by
  rw [preSum_getD, List.take_length]
noncomputable def rSum (K : PySem.W.Frag) : List V → Hp → VK → Prop := fun xs H Q => ∃ v G d ds is, xs = [v] ∧ Same G H ∧ RepP K G H v d ∧ seqD d = some ds ∧ intsD ds = some is ∧ Q (.int is.sum) H
theorem call_sum {X : Cx} (hc : X.calm = true) : CallR X (.builtin "sum") (rSum X.K) := by
  intro pins s σ H xs us Q I r h
  obtain ⟨v, G, d, ds, is, rfl, gh, rp, e1, e2, q⟩ := h
  obtain ⟨k, a, vs, rfl, sq, rs⟩ := rep_sq gh rp e1
  cases r with
  | cons r0 r1 =>
    cases r1
    cases (show _ = Value.ref a from r0)
    obtain ⟨its, rv, p⟩ := inv_sq I sq
    have hv := intsD_vals e2 rs rv
    have hlen : its.toArray.size = is.length := by rw [List.size_toArray, ← rv.length, rs.length, intsD_len e2]
    have hh : X.A.in1.handled = none := I.ok.hd hc
    have hne : a ≠ s.heap.objs.size := Nat.ne_of_lt (sq_lt p)
    refine call_sum_walkG (sk_iter k p ?_)
    have fin : ∀ (h' : Heap) (tk : Nat) (t' : Tok) (o : Obj), (∀ b ob, b ∉ [s.heap.objs.size] → (s.heap.push o).get? b = some ob → h'.get? b = some ob) → EP X pins σ Q (.int (preSum (fun i => is.getD i 0) its.toArray.size) t') { s with heap := h', toks := tk } := fun h' tk t' o hk => by
      rw [hlen, presum]
      exact ⟨.int _, H, I.kept (t' := tk) fun b ob z => hk b ob (by simpa using Nat.ne_of_lt (Heap.lt_size z)) (Heap.get?_push_of_some _ z), ⟨t', rfl⟩, q⟩
    cases k with
    | l =>
      obtain ⟨o, e, r⟩ := (show s.heap.IsList a its.toArray from p)
      exact ⟨s.heap.objs.size, _, _, _, _, _, fun i => is.getD i 0, rfl, Walks.list (A := X.A.in1) hh s.heap.objs.size a hne its.toArray, And.intro ⟨_, Heap.get?_push_size _ rfl, rfl, rfl⟩ ⟨o, Heap.get?_push_of_some _ e, r⟩,
        fun b hb => by simp at hb; rcases hb with rfl | rfl; (rw [Heap.size_push]; exact Nat.lt_succ_self _); (rw [Heap.size_push]; exact Nat.lt_succ_of_lt (sq_lt p)), hv, fun h' tk t' hk => fin h' tk t' _ hk⟩
    | t =>
      obtain ⟨o, e, r⟩ := (show s.heap.IsTuple a its.toArray from p)
      exact ⟨s.heap.objs.size, _, _, _, _, _, fun i => is.getD i 0, rfl, Walks.tuple (A := X.A.in1) hh s.heap.objs.size a hne its.toArray, And.intro ⟨_, Heap.get?_push_size _ rfl, rfl, rfl⟩ ⟨o, Heap.get?_push_of_some _ e, r⟩,
        fun b hb => by simp at hb; rcases hb with rfl | rfl; (rw [Heap.size_push]; exact Nat.lt_succ_self _); (rw [Heap.size_push]; exact Nat.lt_succ_of_lt (sq_lt p)), hv, fun h' tk t' hk => fin h' tk t' _ hk⟩
theorem ev_sum {X : Cx} {a : Expr} {fs : Rho → Option (List D)} {p pos : Pos} (hc : X.calm = true) (hg : Gl X "sum") (hm : X.mg "sum" = none) (ha : Ar X [a] fs) (hs : starEach [a] X.env = (false, eval a X.env) :: starEach [] X.env := by exact star_cons rfl) :
    Ev X (.Call (.Name "sum" p) [a] [] pos) (b1 fs sumD) := pe_imp (pe_callB (call_sum hc) hg hm boot_sum ha (by decide) (by decide) hs rfl) <| by
  rintro σ H Q ⟨ρ, G0, H0, G, d, E, hf, k⟩
  obtain ⟨ds, e1, e2⟩ := b1_some hf
  unfold sumD at e2
  split at e2
  · obtain ⟨xs, e3, e2⟩ := bind_some' e2
    obtain ⟨is, e4, e2⟩ := bind_some' e2
    cases e2
    refine ⟨ρ, G0, H0, G, _, E, e1, fun vs H1 G1 x1 r1 => ?_⟩
    obtain ⟨v, rfl, rv⟩ := r1.one
    exact ⟨v, G1, _, xs, is, rfl, x1.gh, rv, e3, e4, k _ H1 G1 x1 (.int _)⟩
  · cases e2
end PD

set_option Elab.async false
set_option linter.all false
set_option maxRecDepth 100000
namespace PD
open PySem PySem.Spec L2 PyProof.Rows
theorem ev_txt {X : Cx} {x y : Str} {pos : Pos} (hg : Gl X x) (hm : ∃ t, X.mg x = some (.str y t)) (hd : (x == ("__debug__" : Str)) = false := by decide) : Ev X (.Name x pos) (fun _ => some (.str y)) := by
  obtain ⟨t, e⟩ := hm
  exact pe_imp (pe_glob (v := .str y) hg e ⟨t, rfl⟩ hd) (t_cst fun _ => .str y)

theorem sv_asg {X : Cx} {tg e : Expr} {f : Rho → Option D} {tgg : TG} {bd : D → Rho → Option Rho} {pos : Pos} (he : Ev X e f) (hg : PG X tg tgg) (hb : BindS X.K tgg bd)
    (hs : swapsWithSole [tg] e pos.line X.env = pure false := by rfl) (hw : swappedStores [tg] e X.env = pure none := by rfl) (h1 : (assignEach [tg] X.env).map (·.2) = [assign tg X.env] := by rfl) :
    Sv X (.Assign [tg] e pos) (fun ρ => (f ρ).bind fun d => (bd d ρ).bind fun ρ' => some (.nx ρ')) := ps_imp (ps_asg he hg hs hw h1) <| by
  rintro E σ H ⟨ρ, G0, H0, G, o, R, hq, k⟩
  obtain ⟨d, e1, e2⟩ := bind_some' hq
  obtain ⟨ρ', e3, e4⟩ := bind_some' e2
  cases e4
  refine ⟨ρ, G0, H0, G, d, R, e1, fun v H1 G1 x1 r1 => ?_⟩
  exact hb v d ρ ρ' σ G0 H0 G1 H1 _ (R.by x1) r1 e3 fun σ' R' => k σ' G1 H1 R' x1.gg
noncomputable def relabelS (scope fs : Scope) : Scope := { scope with names := scope.names.map fun (n, k) => if (k == NameKind.free && fs.kind == .function && fs.names.lookup n == some .cell) then (n, NameKind.cell) else (n, k) }
section
variable {P : Program} {w : World} {K : PySem.W.Frag} {mg : Str → Option Value} {base : Heap}
theorem fn_sp {x qual : Str} {st : Stmt} {f : Addr} {fd : FuncData} {N ps : List Str} {k : Nat} {g : Rho → Option Out} (Sp : (List D → Option D) → Prop) (Fn : Fun K x qual st f fd) (S : FnScope N ps (defScope st)) (hm : mg x = some (.ref f)) (hB : Binds K fd ps [])
    (hbody : ∀ (cdv : Value) (A : Around) (outer : List Env) (s : Shared) (H : Hp) (E : XK), Room k (A.deeper (PyProof.Rows.envOfC qual (defScope st) s.heap.objs.size f cdv)) →
      Bv (cxOf CX0 P w K mg base N qual (defScope st) f cdv A outer s H E).nox (defBody st) g)
    (h : ∀ F : List D → Option D, (∀ ds, ds.length = ps.length → F ds = (g (startR N.length ds)).bind outD) → Sp F) : ∃ F, FnD P w K mg base (k + 1) x ps F ∧ Sp F := by
  refine ⟨fun ds => if ds.length = ps.length then (g (startR N.length ds)).bind outD else none, fn_body Fn S hm hB hbody fun ds d e => ?_, h _ fun ds hl => if_pos hl⟩
  split at e
  · rename_i hl; exact ⟨hl, e⟩
  · cases e
end
theorem compG_zip {α β : Type} {fa : α → D} {fb : β → D} {h : α → β → D} {f : Rho → Option D} {ρ : Rho} : ∀ (as : List α) (bs : List β), (∀ a ∈ as, ∀ b ∈ bs, f (some (.sh (fa a)) :: some (.sh (fb b)) :: ρ) = some (h a b)) →
    compG bd2 (fun _ => some true) f ρ (pairD (as.map fa) (bs.map fb)) = some (List.zipWith h as bs)
  | [], bs, _ => by cases bs <;> rfl
  | a :: as, [], _ => rfl
  | a :: as, b :: bs, H => by
    have e := H a List.mem_cons_self b List.mem_cons_self
    have ih := compG_zip as bs fun x hx y hy => H x (List.mem_cons_of_mem _ hx) y (List.mem_cons_of_mem _ hy)
    show compG bd2 (fun _ => some true) f ρ (.tup [fa a, fb b] :: pairD (as.map fa) (bs.map fb)) = some (h a b :: List.zipWith h as bs)
    unfold compG
    simp [bd2, e, ih]
theorem compD_zip {α β : Type} (fa : α → D) (fb : β → D) {h : α → β → D} {it : Rho → Option (List D)} {f : Rho → Option D} {ρ : Rho} {as : List α} {bs : List β} (hi : it ρ = some (pairD (as.map fa) (bs.map fb)))
    (H : ∀ a ∈ as, ∀ b ∈ bs, f (some (.sh (fa a)) :: some (.sh (fb b)) :: ρ) = some (h a b)) (hz : as.length ≤ 1000) : compD it bd2 (fun _ => some true) f ρ = some (List.zipWith h as bs) := by
  unfold compD
  rw [hi]
  simp only [Option.bind_some]
  rw [compG_zip as bs H]
  simp only [Option.bind_some]
  exact fitOk _ (by rw [List.length_zipWith]; omega)
theorem compG_map' {α : Type} {fa h : α → D} {f : Rho → Option D} {ρ : Rho} : ∀ (as : List α), (∀ a ∈ as, f (some (.sh (fa a)) :: ρ) = some (h a)) → compG bd1 (fun _ => some true) f ρ (as.map fa) = some (as.map h)
  | [], _ => rfl
  | a :: as, H => by
    have e := H a List.mem_cons_self
    have ih := compG_map' as fun x hx => H x (List.mem_cons_of_mem _ hx)
    show compG bd1 (fun _ => some true) f ρ (fa a :: as.map fa) = some (h a :: as.map h)
    unfold compG
    simp [bd1, e, ih]
theorem compD_map' {α : Type} (fa : α → D) {h : α → D} {it : Rho → Option (List D)} {f : Rho → Option D} {ρ : Rho} {as : List α} (hi : it ρ = some (as.map fa)) (H : ∀ a ∈ as, f (some (.sh (fa a)) :: ρ) = some (h a)) (hz : as.length ≤ 10000) :
    compD it bd1 (fun _ => some true) f ρ = some (as.map h) := by
  unfold compD
  rw [hi]
  simp only [Option.bind_some]
  rw [compG_map' as H]
  simp only [Option.bind_some]
  exact fitOk _ (by rw [List.length_map]; omega)
theorem compG_filter' {α : Type} {fa h : α → D} {p : α → Bool} {c : Rho → Option Bool} {f : Rho → Option D} {ρ : Rho} : ∀ (as : List α), (∀ a ∈ as, c (some (.sh (fa a)) :: ρ) = some (p a)) → (∀ a ∈ as, p a = true → f (some (.sh (fa a)) :: ρ) = some (h a)) →
    compG bd1 c f ρ (as.map fa) = some ((as.filter p).map h)
  | [], _, _ => rfl
  | a :: as, H1, H2 => by
    have e1 := H1 a List.mem_cons_self
    have e2 := H2 a List.mem_cons_self
    have ih := compG_filter' as (fun x hx => H1 x (List.mem_cons_of_mem _ hx)) (fun x hx => H2 x (List.mem_cons_of_mem _ hx))
    show compG bd1 c f ρ (fa a :: as.map fa) = _
    unfold compG
    cases hp : p a with
    | true =>
      have e2 := e2 hp
      simp [bd1, e1, e2, ih, hp]
    | false => simp [bd1, e1, ih, hp]
theorem compD_filter' {α : Type} (fa : α → D) {h : α → D} {p : α → Bool} {it : Rho → Option (List D)} {c : Rho → Option Bool} {f : Rho → Option D} {ρ : Rho} {as : List α} (hi : it ρ = some (as.map fa)) (H1 : ∀ a ∈ as, c (some (.sh (fa a)) :: ρ) = some (p a))
    (H2 : ∀ a ∈ as, p a = true → f (some (.sh (fa a)) :: ρ) = some (h a)) (hz : as.length ≤ 10000) : compD it bd1 c f ρ = some ((as.filter p).map h) := by
  unfold compD
  rw [hi]
  simp only [Option.bind_some]
  rw [compG_filter' as H1 H2]
  simp only [Option.bind_some]
  exact fitOk _ (by rw [List.length_map]; have := List.length_filter_le p as; omega)
theorem allD_of {α : Type} (p : α → Bool) (as : List α) : allD [.lst (as.map fun a => .bl (p a))] = some (.bl (as.all p)) := by
  have e : bools (as.map fun a => .bl (p a)) = some (as.map p) := by
    induction as with
    | nil => rfl
    | cons a as ih => simp [bools, ih]
  show (bools (as.map fun a => .bl (p a))).bind (fun bs => some (D.bl (bs.all id))) = _
  rw [e, Option.bind_some, List.all_map]
  rfl
theorem map_nil {α β : Type} {f : α → β} {xs : List α} : (xs.map f).isEmpty = xs.isEmpty := List.isEmpty_map
theorem filter_none {α : Type} {p : α → Bool} {xs : List α} : (xs.filter p).isEmpty = xs.all fun x => !p x := by
  induction xs with
  | nil => rfl
  | cons x xs ih =>
    cases h : p x with
    | true => simp [h]
    | false => rw [List.filter_cons_of_neg (by simp [h]), ih]; simp [h]
theorem sv_fix {X : Cx} {st : Stmt} {g : Rho → Option Out} (i : Nat) (h : Sv X st g) : Sv X st (fun ρ => match ρ[i]? with
    | some (some (.ow ds)) => g (ρ.set i (some (.sh (.lst ds))))
    | _ => g ρ) := ps_imp h fun E σ H ⟨ρ, G0, H0, G, o, R, hq, k⟩ => by
  dsimp only at hq
  split at hq
  · rename_i ds e
    obtain ⟨G', s, R'⟩ := R.fix e
    exact ⟨_, G0, H0, G', o, R', hq, k.mono s⟩
  · exact ⟨ρ, G0, H0, G, o, R, hq, k⟩
end PD

set_option Elab.async false
set_option linter.all false
set_option maxRecDepth 100000
namespace PD
open PySem PySem.Spec L2 PyProof.Rows
theorem forG_ret {α : Type} (fa : α → D) {bd : D → Rho → Option Rho} {g : Rho → Option Out} {d0 : D} (ok : α → Bool) (inv : List α → Rho → Prop) : ∀ (as pre : List α) (ρ : Rho), inv pre ρ →
    (∀ (p : List α) (a : α) (q : List α) (ρ : Rho), pre ++ as = p ++ a :: q → inv p ρ → ∃ ρ1, bd (fa a) ρ = some ρ1 ∧ ((ok a = true ∧ ∃ ρ', g ρ1 = some (.nx ρ') ∧ inv (p ++ [a]) ρ') ∨ (ok a = false ∧ g ρ1 = some (.rt d0)))) →
    (as.all ok = true ∧ ∃ ρ', forG bd g (as.map fa) ρ = some (.nx ρ') ∧ inv (pre ++ as) ρ') ∨ (as.all ok = false ∧ forG bd g (as.map fa) ρ = some (.rt d0))
  | [], pre, ρ, h, _ => .inl ⟨rfl, ρ, rfl, by rw [List.append_nil]; exact h⟩
  | a :: as, pre, ρ, h, H => by
    obtain ⟨ρ1, e1, z⟩ := H pre a as ρ rfl h
    rcases z with ⟨o1, ρ2, e2, h2⟩ | ⟨o1, e2⟩
    · have z := forG_ret fa ok inv as (pre ++ [a]) ρ2 h2 (fun p b q ρ' e h' => H p b q ρ' (by rw [← e]; simp) h')
      have ee : forG bd g ((a :: as).map fa) ρ = forG bd g (as.map fa) ρ2 := by
        show (bd (fa a) ρ).bind _ = _
        rw [e1]
        simp only [Option.bind_some]
        rw [e2]
        rfl
      rw [ee, List.all_cons, o1, Bool.true_and, show pre ++ a :: as = pre ++ [a] ++ as by simp]
      exact z
    · refine .inr ⟨by rw [List.all_cons, o1]; rfl, ?_⟩
      show (bd (fa a) ρ).bind _ = _
      rw [e1]
      simp only [Option.bind_some]
      rw [e2]
      rfl
theorem forG_all {α : Type} (fa : α → D) {bd : D → Rho → Option Rho} {g : Rho → Option Out} (inv : List α → Rho → Prop) (as : List α) (ρ : Rho) (h : inv [] ρ)
    (H : ∀ (p : List α) (a : α) (q : List α) (ρ : Rho), as = p ++ a :: q → inv p ρ → ∃ ρ1, bd (fa a) ρ = some ρ1 ∧ ∃ ρ', g ρ1 = some (.nx ρ') ∧ inv (p ++ [a]) ρ') : ∃ ρ', forG bd g (as.map fa) ρ = some (.nx ρ') ∧ inv as ρ' := by
  rcases forG_ret (d0 := .non) fa (fun _ => true) inv as [] ρ h (fun p a q ρ e h' => by
    obtain ⟨ρ1, e1, ρ2, e2, h2⟩ := H p a q ρ (by simpa using e) h'
    exact ⟨ρ1, e1, .inl ⟨rfl, ρ2, e2, h2⟩⟩) with ⟨_, z⟩ | ⟨z, _⟩
  · simpa using z
  · simp at z
end PD

set_option Elab.async false
set_option linter.all false
set_option maxRecDepth 100000
namespace PD
open PySem PySem.Spec L2 PyProof.Rows
theorem bo {x : Option Out} {d : D} (h : x = some (.rt d)) : x.bind outD = some d := by rw [h]; rfl
theorem sq {a k : Rho → Option Out} {ρ ρ' : Rho} {o : Option Out} (h : a ρ = some (.nx ρ')) (h2 : k ρ' = o) : seqO a k ρ = o := by
  unfold seqO
  rw [h]
  exact h2
theorem sq_r {a k : Rho → Option Out} {ρ : Rho} {d : D} (h : a ρ = some (.rt d)) : seqO a k ρ = some (.rt d) := by
  unfold seqO
  rw [h]
  rfl
theorem sq_mid {a k : Rho → Option Out} {ρ : Rho} {o : Option Out} (I : Rho → Prop) (h : ∃ ρ', a ρ = some (.nx ρ') ∧ I ρ') (h2 : ∀ ρ', I ρ' → k ρ' = o) : seqO a k ρ = o := by
  obtain ⟨ρ', e, i⟩ := h
  exact sq e (h2 ρ' i)
theorem sq_set {f : Rho → Option D} {k : Rho → Option Out} {i : Nat} {ρ : Rho} {o : Option Out} (d : D) (h : f ρ = some d) (h2 : k (ρ.set i (some (.sh d))) = o) : seqO (fun ρ => (f ρ).bind fun d => some (.nx (ρ.set i (some (.sh d))))) k ρ = o :=
  sq (a := fun ρ => (f ρ).bind fun d => some (.nx (ρ.set i (some (.sh d))))) (ρ' := ρ.set i (some (.sh d))) (by show (f ρ).bind _ = _; rw [h]; rfl) h2
theorem it_f {t : Rho → Option Bool} {a b : Rho → Option Out} {ρ : Rho} {o : Option Out} (h : t ρ = some false) (h2 : b ρ = o) : iteO t a b ρ = o := by
  unfold iteO
  rw [h]
  exact h2
theorem it_t {t : Rho → Option Bool} {a b : Rho → Option Out} {ρ : Rho} {o : Option Out} (h : t ρ = some true) (h2 : a ρ = o) : iteO t a b ρ = o := by
  unfold iteO
  rw [h]
  exact h2
theorem st_set {f : Rho → Option D} {i : Nat} {ρ : Rho} (d : D) (h : f ρ = some d) : (fun ρ => (f ρ).bind fun d => some (Out.nx (ρ.set i (some (.sh d))))) ρ = some (.nx (ρ.set i (some (.sh d)))) := by
  show (f ρ).bind _ = _
  rw [h]
  rfl
theorem b1_at {α β : Type} {f : Rho → Option α} {g : α → Option β} {ρ : Rho} (x : α) (h : f ρ = some x) : b1 f g ρ = g x := by
  show (f ρ).bind _ = _
  rw [h]
  rfl
theorem sq_if {t : Rho → Option Bool} {a k : Rho → Option Out} {ρ : Rho} {o : Option Out} (h : t ρ = some false) (h2 : k ρ = o) : seqO (iteO t a fun ρ => some (.nx ρ)) k ρ = o := sq (it_f h rfl) h2
theorem for_at {it : Rho → Option (List D)} {bd : D → Rho → Option Rho} {g : Rho → Option Out} {ρ : Rho} {o : Option Out} (ds : List D) (h : it ρ = some ds) (h2 : forG bd g ds ρ = o) : forD it bd g ρ = o := by
  unfold forD
  rw [h]
  exact h2
theorem sq_for {α : Type} (fa : α → D) {it : Rho → Option (List D)} {bd : D → Rho → Option Rho} {g k : Rho → Option Out} {ρ : Rho} {o : Option Out} (as : List α) (inv : List α → Rho → Prop) (h : it ρ = some (as.map fa)) (h0 : inv [] ρ)
    (H : ∀ (p : List α) (a : α) (q : List α) (ρ : Rho), as = p ++ a :: q → inv p ρ → ∃ ρ1, bd (fa a) ρ = some ρ1 ∧ ∃ ρ', g ρ1 = some (.nx ρ') ∧ inv (p ++ [a]) ρ') (h2 : ∀ ρ', inv as ρ' → k ρ' = o) : seqO (forD it bd g) k ρ = o := by
  obtain ⟨ρ', e, i⟩ := forG_all fa inv as ρ h0 H
  exact sq (for_at _ h e) (h2 ρ' i)
section
variable {X : Cx} {a b : Expr} {f g : Rho → Option D} {pos : Pos}
theorem op_isB : OpR X (compareOp .Is) (fun x y H Q => ∃ c d, x = .bl c ∧ y = .bl d ∧ Q (.bl (c == d)) H) := by
  intro pins s σ H x y v u Q I rx ry h
  obtain ⟨c, d, rfl, rfl, q⟩ := h
  cases rx
  cases ry
  exact is_bool (fin_bl I q rfl)
noncomputable def isBlD : D → D → Option D
  | .bl c, .bl d => some (.bl (c == d))
  | _, _ => none
noncomputable def notBlD : D → D → Option D
  | .bl c, .bl d => some (.bl (c != d))
  | _, _ => none
theorem d_isB {K : PySem.W.Frag} : OpD K (fun x y H Q => ∃ c d, x = .bl c ∧ y = .bl d ∧ Q (.bl (c == d)) H) isBlD := by
  intro v u x y G H Q d s rv ru e k
  unfold isBlD at e
  split at e
  · cases e
    exact ⟨_, _, rv.bl_inv, ru.bl_inv, k _ H G (Ext.refl s) (.bl _)⟩
  · cases e
theorem ev_isB (ha : Rv X a f) (hb : Rv X b g) : Ev X (.Compare a [.Is] [b] pos) (b2 f g isBlD) := ev_cmp op_isB d_isB ha hb (nomark _)
@[simp] theorem isBlD_bl (c d : Bool) : isBlD (.bl c) (.bl d) = some (.bl (c == d)) := rfl
@[simp] theorem notBlD_bl (c d : Bool) : notBlD (.bl c) (.bl d) = some (.bl (c != d)) := rfl
end
end PD

set_option Elab.async false
set_option linter.all false
set_option maxRecDepth 100000
namespace PD
open PySem PySem.Spec L2 PyProof.Rows
noncomputable def absD : List D → Option D
  | [.int i] => some (.int (if i < 0 then -i else i))
  | _ => none
theorem c_abs {K : PySem.W.Frag} : CallD K (fun xs H Q => ∃ i, xs = [.int i] ∧ Q (.int (if i < 0 then -i else i)) H) absD := by
  intro vs ds G H Q d s r e k
  unfold absD at e
  split at e
  · rename_i i
    obtain ⟨v, rfl, rv⟩ := r.one
    cases rv.int_inv
    cases e
    exact ⟨i, rfl, k _ H G (Ext.refl s) (.int _)⟩
  · cases e
theorem ev_abs {X : Cx} {e : Expr} {fs : Rho → Option (List D)} {p pos : Pos} (hg : Gl X "abs") (hm : X.mg "abs" = none) (ha : Ar X [e] fs) (he : starEach [e] X.env = (false, eval e X.env) :: starEach [] X.env := by exact star_cons rfl) : Ev X (.Call (.Name "abs" p) [e] [] pos) (b1 fs absD) :=
  ev_callB call_abs c_abs hg hm PyProof.Rows.boot_abs ha (by decide) (by decide) he rfl
@[simp] theorem absD_int (i : Int) : absD [.int i] = some (.int (if i < 0 then -i else i)) := rfl
noncomputable def notInD (x y : D) : Option D := match y with
  | .lst ys => if (ys.all fun z => decide (min (dep z) (dep x) ≤ 50)) = true then some (.bl (!(ys.any fun z => eqD z x))) else none
  | _ => none
noncomputable def rNotIn (K : PySem.W.Frag) : R2 := fun v u H Q => ∃ G x ys, Same G H ∧ RepP K G H v x ∧ RepP K G H u (.lst ys) ∧ (ys.all fun z => decide (min (dep z) (dep x) ≤ 50)) = true ∧ Q (.bl (!(ys.any fun z => eqD z x))) H
noncomputable def eqW (h : Heap) (d : D) (w : Value) : Bool := by
  classical
  exact if z : ∃ x, Sit h w x then eqD (Classical.choose z) d else false
theorem eqW_is {h : Heap} {d x : D} {w : Value} (s : Sit h w x) : eqW h d w = eqD x d := by
  have z : ∃ x, Sit h w x := ⟨x, s⟩
  unfold eqW
  rw [dif_pos z, Sit.det (Classical.choose_spec z) s]
theorem any_eqW {h : Heap} {d : D} : ∀ {us : List Value} {ds : List D}, Sits h us ds → us.any (eqW h d) = ds.any fun z => eqD z d
  | _, _, .nil => rfl
  | _, _, .cons e r => by rw [List.any_cons, List.any_cons, eqW_is e, any_eqW r]
theorem mem_eqW {s : Shared} {A : Around} {d : D} {v : Value} (sv : Sit s.heap v d) (hu : A.units + 50 < cLine) {us : List Value} {ds : List D} (a : Sits s.heap us ds) (hm : (ds.all fun z => decide (min (dep z) (dep d) ≤ 50)) = true) : ∀ w ∈ us, SeqAt.EqAt A s w v (eqW s.heap d w) := by
  intro w hw
  cases a with
  | nil => cases hw
  | cons e r =>
    rw [List.all_cons, Bool.and_eq_true] at hm
    rcases List.mem_cons.mp hw with rfl | hw
    · rw [eqW_is e]
      exact (eqAt_both 50 _ d _ v A (of_decide_eq_true hm.1) hu e sv).1
    · exact mem_eqW sv hu r hm.2 w hw
section
variable {X : Cx} {a b : Expr} {f g : Rho → Option D} {pos : Pos}
theorem op_notInD {k : Nat} (hr : Room k X.A) : OpR X (compareOp .NotIn) (rNotIn X.K) := by
  intro pins s σ H x y v u Q I rx ry h
  obtain ⟨G, d, ds, gh, p, q, hm, k⟩ := h
  have sv := sit_ofP I gh p rx
  have su := sit_ofP I gh q ry
  cases su with
  | @lst a its _ e r =>
    refine SeqAt.notIn_listAt (eqW s.heap d) e (fun w hw => mem_eqW sv (by rw [units_in1]; have := hr.un; omega) r hm w (by simpa using hw)) ⟨.bl _, H, I, rfl, ?_⟩
    rw [show its.toArray.any (eqW s.heap d) = its.any (eqW s.heap d) by simp, any_eqW r]
    exact k
theorem d_notIn {K : PySem.W.Frag} : OpD K (rNotIn K) notInD := by
  intro v u x y G H Q d s rv ru e k
  unfold notInD at e
  split at e
  · split at e
    · rename_i hm
      cases e
      exact ⟨G, x, _, s, rv, ru, hm, k _ H G (Ext.refl s) (.bl _)⟩
    · cases e
  · cases e
theorem ts_notIn {k : Nat} (hr : Room k X.A) (ha : Rv X a f) (hb : Rv X b g) (hm : behindInMarks .NotIn b = false := by rfl) : Ts X (.Compare a [.NotIn] [b] pos) (b1 (b2 f g notInD) isB) := ts_cmp (op_notInD hr) d_notIn ha hb hm
end
section
variable {X : Cx} {e : Expr} {i : Nat} {x : Str} {pos pos' : Pos}
noncomputable def extO (i : Nat) (f : Rho → Option (List D)) (ρ : Rho) : Option Out := match ρ[i]? with
  | some (some (.ow ds)) => (f ρ).bind fun es => if ds.length + es.length ≤ sizeLine then some (.nx (ρ.set i (some (.ow (ds ++ es))))) else none
  | _ => none
theorem sv_extend (i : Nat) {f : Rho → Option (List D)} {apos cpos : Pos} (he : Fv X e f) (hi : X.N[i]? = some x := by rfl) (hv : Vis X.env.scope x := by first | exact Or.inl rfl | exact Or.inr (Or.inl rfl) | exact Or.inr (Or.inr rfl)) (hd : (x == ("__debug__" : Str)) = false := by decide)
    (hcd : (x == ("__classdict__" : Str)) = false := by decide)
    (hbase : attributeBase (.Name x pos') ("extend" : Str) X.env (eval (.Name x pos') X.env) = eval (.Name x pos') X.env := by rfl)
    (hfew : ((backTo cpos (starEach [e] X.env)).all (fun x => !x.1) && (backToKw cpos (keywordEach [] X.env)).all (fun x => x.1.isSome)
      && decide ([e].length + ([] : List Keyword).length + (if ([] : List Keyword).isEmpty then 0 else 1) < 30)) = true := by rfl)
    (hline : (apos.endLine == cpos.line) = true := by rfl) (hse : starEach [e] X.env = (false, eval e X.env) :: starEach [] X.env := by exact star_cons rfl) (hplain : (backTo cpos (starEach [] X.env)).any (·.1) = false := by rfl) (hs : swapsWith (.Call (.Attribute (.Name x pos') ("extend" : Str) apos) [e] [] cpos) none pos.line X.env = pure false := by rfl) :
    Sv X (.Expr (.Call (.Attribute (.Name x pos') ("extend" : Str) apos) [e] [] cpos) pos) (extO i f) :=
  ps_imp (ps_expr (pe_bm PySem.F.plainAttrs_list PySem.F.slot_list_extend PySem.F.type_list_extend mt_extend (pe_var hi hv hd hcd) (pa_cons he pa_nil hse) hbase hfew hline hse hplain) hs) <| by
    rintro E σ H ⟨ρ, G0, H0, G, o, R, hg, k⟩
    unfold extO at hg
    split at hg
    · rename_i ds q
      obtain ⟨es, e1, e2⟩ := bind_some' hg
      split at e2
      · rename_i hz
        cases e2
        obtain ⟨a, xs, h1, h2, h3, h4, h5⟩ := R.ow i ds q
        refine ⟨.ref a, h1, .inl ⟨rfl, xs, SqL.of h2⟩, ρ, G0, H0, G, es, R, e1, fun b zs H1 G1 x1 hb hgb hhb r1 => ?_⟩
        have R1 := R.by x1
        have h2' := x1.hh _ _ h2
        obtain ⟨a', xs', g1, g2, g3, g4, g5⟩ := R1.ow i ds q
        rw [h1] at g1
        have ea : a = a' := by injection g1 with g1; injection g1 with g1; injection g1
        subst ea
        rw [h2'] at g2
        have ex : xs = xs' := by injection g2 with g2; injection g2
        subst ex
        refine ⟨a, b, xs, zs, rfl, rfl, h2', hb, by rw [g5.length, r1.length]; exact hz, ?_⟩
        exact k σ G1 _ (R1.mut q h1 h2' g3 g4 (g5.append r1)) x1.gg
      · cases e2
    · cases hg
end
theorem sq_comp {f : Rho → Option (List D)} {k : Rho → Option Out} {i : Nat} {ρ : Rho} {o : Option Out} (ds : List D) (h : f ρ = some ds) (h2 : k (ρ.set i (some (.sh (.lst ds)))) = o) : seqO (fun ρ => (f ρ).bind fun ds => some (.nx (ρ.set i (some (.sh (.lst ds)))))) k ρ = o :=
  sq (a := fun ρ => (f ρ).bind fun ds => some (.nx (ρ.set i (some (.sh (.lst ds)))))) (ρ' := ρ.set i (some (.sh (.lst ds)))) (by show (f ρ).bind _ = _; rw [h]; rfl) h2
theorem sq_own {f : Rho → Option (List D)} {k : Rho → Option Out} {i : Nat} {ρ : Rho} {o : Option Out} (ds : List D) (h : f ρ = some ds) (h2 : k (ρ.set i (some (.ow ds))) = o) : seqO (fun ρ => (f ρ).bind fun ds => some (.nx (ρ.set i (some (.ow ds))))) k ρ = o :=
  sq (a := fun ρ => (f ρ).bind fun ds => some (.nx (ρ.set i (some (.ow ds))))) (ρ' := ρ.set i (some (.ow ds))) (by show (f ρ).bind _ = _; rw [h]; rfl) h2
theorem app_at {f : Rho → Option D} {i : Nat} {ρ : Rho} (ds : List D) (d : D) (h0 : ρ[i]? = some (some (.ow ds))) (h : f ρ = some d) (hz : ds.length < sizeLine) : appO i f ρ = some (.nx (ρ.set i (some (.ow (ds ++ [d]))))) := by
  unfold appO
  rw [h0]
  dsimp only
  rw [h, Option.bind_some, if_pos hz]
theorem sq_app {f : Rho → Option D} {k : Rho → Option Out} {i : Nat} {ρ : Rho} {o : Option Out} (ds : List D) (d : D) (h0 : ρ[i]? = some (some (.ow ds))) (h : f ρ = some d) (hz : ds.length < sizeLine) (h2 : k (ρ.set i (some (.ow (ds ++ [d])))) = o) : seqO (appO i f) k ρ = o := sq (app_at ds d h0 h hz) h2
theorem sq_ext {f : Rho → Option (List D)} {k : Rho → Option Out} {i : Nat} {ρ : Rho} {o : Option Out} (ds es : List D) (h0 : ρ[i]? = some (some (.ow ds))) (h : f ρ = some es) (hz : ds.length + es.length ≤ sizeLine) (h2 : k (ρ.set i (some (.ow (ds ++ es)))) = o) : seqO (extO i f) k ρ = o := by
  refine sq (ρ' := ρ.set i (some (.ow (ds ++ es)))) ?_ h2
  unfold extO
  rw [h0]
  dsimp only
  rw [h, Option.bind_some, if_pos hz]
theorem sq_fix {g k : Rho → Option Out} {i : Nat} {ρ : Rho} {o : Option Out} (ds : List D) (h0 : ρ[i]? = some (some (.ow ds))) (h2 : seqO g k (ρ.set i (some (.sh (.lst ds)))) = o) : seqO (fun ρ => match ρ[i]? with
    | some (some (.ow ds)) => g (ρ.set i (some (.sh (.lst ds))))
    | _ => g ρ) k ρ = o := by
  rw [← h2]
  unfold seqO
  dsimp only
  rw [h0]
theorem while_f {n : Nat} {p : Rho → Option Bool} {g : Rho → Option Out} {ρ : Rho} (h : p ρ = some false) : whileD (n + 1) p g ρ = some (.nx ρ) := by
  unfold whileD
  rw [h]
  rfl
theorem while_t {n : Nat} {p : Rho → Option Bool} {g : Rho → Option Out} {ρ ρ1 : Rho} (h : p ρ = some true) (h2 : g ρ = some (.nx ρ1)) : whileD (n + 1) p g ρ = whileD n p g ρ1 := by
  show (p ρ).bind _ = _
  rw [h]
  simp only [Option.bind_some, if_true]
  rw [h2]
  rfl
theorem compG_zipf {α β : Type} {fa : α → D} {fb : β → D} {p : α × β → Bool} {h : α × β → D} {c : Rho → Option Bool} {f : Rho → Option D} {ρ : Rho} : ∀ (as : List α) (bs : List β), (∀ a ∈ as, ∀ b ∈ bs, c (some (.sh (fa a)) :: some (.sh (fb b)) :: ρ) = some (p (a, b))) → (∀ a ∈ as, ∀ b ∈ bs, p (a, b) = true → f (some (.sh (fa a)) :: some (.sh (fb b)) :: ρ) = some (h (a, b))) →
    compG bd2 c f ρ (pairD (as.map fa) (bs.map fb)) = some (((List.zip as bs).filter p).map h)
  | [], bs, _, _ => by cases bs <;> rfl
  | a :: as, [], _, _ => rfl
  | a :: as, b :: bs, H1, H2 => by
    have e1 := H1 a List.mem_cons_self b List.mem_cons_self
    have e2 := H2 a List.mem_cons_self b List.mem_cons_self
    have ih := compG_zipf as bs (fun x hx y hy => H1 x (List.mem_cons_of_mem _ hx) y (List.mem_cons_of_mem _ hy)) (fun x hx y hy => H2 x (List.mem_cons_of_mem _ hx) y (List.mem_cons_of_mem _ hy))
    show compG bd2 c f ρ (.tup [fa a, fb b] :: pairD (as.map fa) (bs.map fb)) = some ((((a, b) :: List.zip as bs).filter p).map h)
    unfold compG
    cases hp : p (a, b) with
    | true =>
      have e2 := e2 hp
      rw [List.filter_cons_of_pos hp]
      simp [bd2, e1, e2, ih, hp]
    | false =>
      rw [List.filter_cons_of_neg (by simp [hp])]
      simp [bd2, e1, ih, hp]
theorem compD_zipf {α β : Type} (fa : α → D) (fb : β → D) {p : α × β → Bool} {h : α × β → D} {it : Rho → Option (List D)} {c : Rho → Option Bool} {f : Rho → Option D} {ρ : Rho} {as : List α} {bs : List β} (hi : it ρ = some (pairD (as.map fa) (bs.map fb)))
    (H1 : ∀ a ∈ as, ∀ b ∈ bs, c (some (.sh (fa a)) :: some (.sh (fb b)) :: ρ) = some (p (a, b))) (H2 : ∀ a ∈ as, ∀ b ∈ bs, p (a, b) = true → f (some (.sh (fa a)) :: some (.sh (fb b)) :: ρ) = some (h (a, b))) (hz : as.length ≤ 1000) : compD it bd2 c f ρ = some (((List.zip as bs).filter p).map h) := by
  unfold compD
  rw [hi]
  simp only [Option.bind_some]
  rw [compG_zipf as bs H1 H2]
  simp only [Option.bind_some]
  exact fitOk _ (by rw [List.length_map]; have := List.length_filter_le p (List.zip as bs); rw [List.length_zip] at this; omega)
end PD

set_option Elab.async false
set_option linter.all false
set_option maxRecDepth 100000
namespace KQ
open PySem PySem.Spec L2 PD

noncomputable def isWhole : D → Bool
  | .int _ => true
  | _ => false
noncomputable def isRow : D → Int → Bool
  | .tup xs, w => ((xs.length : Int) == w) && xs.all isWhole
  | _, _ => false
noncomputable def isRWW : D → Int → Bool
  | .tup [r, l], w => isRow r w && isWhole l
  | _, _ => false
noncomputable def reach (i : Int) : Bool := decide (-1000000 ≤ i) && decide (i ≤ 1000000)
noncomputable def reachD : D → Bool
  | .int i => reach i
  | _ => false
noncomputable def isBound : D → Int → Bool
  | .tup [.tup r, .int l], w => isRow (.tup r) w && (reach l && r.all reachD)
  | _, _ => false
noncomputable def isPoint : D → Int → Bool
  | .tup [r, .int l], w => isRow r w && decide (1 ≤ l)
  | _, _ => false
mutual
noncomputable def shD : D → Bool
  | .tup xs => decide (xs.length ≤ 1000) && shDs xs
  | _ => true
noncomputable def shDs : List D → Bool
  | [] => true
  | x :: xs => shD x && shDs xs
end
theorem shDs_mem : ∀ {xs : List D} {x : D}, shDs xs = true → x ∈ xs → shD x = true
  | y :: ys, x, h, hx => by
    rw [shDs, Bool.and_eq_true] at h
    rcases List.mem_cons.mp hx with rfl | hx
    · exact h.1
    · exact shDs_mem h.2 hx
theorem shDs_of : ∀ {xs : List D}, (∀ x ∈ xs, shD x = true) → shDs xs = true
  | [], _ => rfl
  | y :: ys, h => by
    rw [shDs, h y List.mem_cons_self, shDs_of fun x hx => h x (List.mem_cons_of_mem _ hx)]
    rfl
theorem shD_tup {xs : List D} (h : shD (.tup xs) = true) : xs.length ≤ 1000 ∧ ∀ x ∈ xs, shD x = true := by
  rw [shD, Bool.and_eq_true] at h
  exact ⟨of_decide_eq_true h.1, fun x hx => shDs_mem h.2 hx⟩
theorem shD_mk {xs : List D} (h1 : xs.length ≤ 1000) (h2 : ∀ x ∈ xs, shD x = true) : shD (.tup xs) = true := by
  rw [shD, decide_eq_true h1, shDs_of h2]
  rfl
theorem le_line {n : Nat} (h : n ≤ 1000) : n ≤ sizeLine := line_le (by first | assumption | exact Nat.le_of_lt ‹_› | omega)
noncomputable def gate (t : D) (d : D) : Option D := if shD t = true then some d else none
theorem gate_some {t d d' : D} (h : gate t d = some d') : shD t = true ∧ d = d' := by
  unfold gate at h
  split at h
  · rename_i q; exact ⟨q, Option.some.inj h⟩
  · cases h
theorem gate_of {t d : D} (h : shD t = true) : gate t d = some d := by unfold gate; rw [if_pos h]
noncomputable def M_is_whole : List D → Option D
  | [x] => some (.bl (isWhole x))
  | _ => none
noncomputable def M_is_row : List D → Option D
  | [t, .int w] => gate t (.bl (isRow t w))
  | _ => none
noncomputable def M_is_point : List D → Option D
  | [t, .int w] => gate t (.bl (isPoint t w))
  | _ => none
noncomputable abbrev M_law_whole := M_is_whole
noncomputable abbrev M_law_is_row := M_is_row
noncomputable abbrev M_law_is_point := M_is_point
theorem M_row_at {t : D} {w : Int} (h : shD t = true) : M_is_row [t, .int w] = some (.bl (isRow t w)) := gate_of h
theorem M_point_at {t : D} {w : Int} (h : shD t = true) : M_is_point [t, .int w] = some (.bl (isPoint t w)) := gate_of h
theorem all_whole {r : List D} (h : r.all isWhole = true) : ∃ is : List Int, r = is.map D.int := by
  induction r with
  | nil => exact ⟨[], rfl⟩
  | cons x r ih =>
    rw [List.all_cons, Bool.and_eq_true] at h
    obtain ⟨is, e⟩ := ih h.2
    cases x with
    | int i => exact ⟨i :: is, by rw [e]; rfl⟩
    | _ => cases h.1
theorem row_inv {r : D} {w : Int} (h : isRow r w = true) : ∃ is : List Int, r = .tup (is.map D.int) ∧ (is.length : Int) = w := by
  cases r with
  | tup rs =>
    have h : (((rs.length : Int) == w) && rs.all isWhole) = true := h
    rw [Bool.and_eq_true] at h
    obtain ⟨is, rfl⟩ := all_whole h.2
    exact ⟨is, rfl, by simpa using h.1⟩
  | _ => cases h
noncomputable def pre_law_cell_at (ds : List D) : Prop := ∃ (ns : List Int) (k : Int), ds = [.lst (ns.map D.int), .int k] ∧ 0 ≤ k
noncomputable def post_law_cell_at (_ : List D) (d : D) : Prop := ∃ i, d = .int i
noncomputable def pre_law_mixed (ds : List D) : Prop := ∃ (ns : List Int) (k : Int), ds = [.lst (ns.map D.int), .int k] ∧ 0 ≤ k
noncomputable def post_law_mixed (_ : List D) (d : D) : Prop := ∃ i, d = .int i ∧ 0 ≤ i
noncomputable def pre_law_drawn (ds : List D) : Prop := ∃ n k, ds = [.int n, .int k]
noncomputable def post_law_drawn (_ : List D) (d : D) : Prop := ∃ i, d = .int i ∧ 0 ≤ i
noncomputable def pre_law_signed (ds : List D) : Prop := ∃ n z, ds = [.int n, .int z] ∧ 0 < z ∧ z ≤ 1000001
noncomputable def post_law_signed (ds : List D) (d : D) : Prop := ∃ i, d = .int i ∧ reach i = true
noncomputable def pre_law_row (ds : List D) : Prop := ∃ n w z, ds = [.int n, .int w, .int z] ∧ 1 ≤ w ∧ w ≤ 3 ∧ 0 < z ∧ z ≤ 1000001
noncomputable def post_law_row (ds : List D) (d : D) : Prop := ∃ (n w z : Int) (is : List Int), ds = [.int n, .int w, .int z] ∧ d = .tup (is.map D.int) ∧ (is.length : Int) = w ∧ ∀ i ∈ is, reach i = true
noncomputable def pre_law_size (ds : List D) : Prop := ∃ n, ds = [.int n]
noncomputable def post_law_size (_ : List D) (d : D) : Prop := ∃ i, d = .int i ∧ 0 < i ∧ i ≤ 1000001
theorem ints_map : ∀ ys : List D, (∀ y ∈ ys, ∃ i, y = D.int i ∧ reach i = true) → ∃ is : List Int, ys = is.map D.int ∧ ∀ i ∈ is, reach i = true
  | [], _ => ⟨[], rfl, fun i hi => by cases hi⟩
  | y :: ys, h => by
    obtain ⟨i, rfl, hi⟩ := h y List.mem_cons_self
    obtain ⟨is, rfl, his⟩ := ints_map ys fun z hz => h z (List.mem_cons_of_mem _ hz)
    refine ⟨i :: is, rfl, fun j hj => ?_⟩
    rcases List.mem_cons.mp hj with rfl | hj
    · exact hi
    · exact his j hj

theorem bound_inv {b : D} {w : Int} (h : isBound b w = true) : ∃ (is : List Int) (l : Int), b = .tup [.tup (is.map D.int), .int l] ∧ (is.length : Int) = w ∧ (∀ i ∈ is, reach i = true) ∧ reach l = true := by
  match b, h with
  | .tup [.tup r, .int l], h =>
    have h : (isRow (.tup r) w && (reach l && r.all reachD)) = true := h
    rw [Bool.and_eq_true, Bool.and_eq_true] at h
    obtain ⟨is, e, hw⟩ := row_inv h.1
    injection e with e
    subst e
    refine ⟨is, l, rfl, hw, fun i hi => ?_, h.2.1⟩
    have := h.2.2
    rw [List.all_eq_true] at this
    exact this (.int i) (List.mem_map_of_mem hi)
theorem bound_mk {is : List Int} {l w : Int} (h1 : (is.length : Int) = w) (h2 : ∀ i ∈ is, reach i = true) (h3 : reach l = true) : isBound (.tup [.tup (is.map D.int), .int l]) w = true := by
  show (isRow (.tup (is.map D.int)) w && (reach l && (is.map D.int).all reachD)) = true
  rw [h3, Bool.true_and, Bool.and_eq_true]
  constructor
  · show (((((is.map D.int).length : Nat) : Int) == w) && (is.map D.int).all isWhole) = true
    rw [List.length_map, h1]
    simp [isWhole]
  · rw [List.all_eq_true]
    intro x hx
    obtain ⟨i, hi, rfl⟩ := List.mem_map.mp hx
    exact h2 i hi
noncomputable def M_law : List D → Option D
  | [.lst xs] => if xs.all isWhole = true then some (.bl true) else none
  | _ => none

theorem M_law_true (ns : List Int) : M_law [.lst (ns.map D.int)] = some (.bl true) := by
  show (if (ns.map D.int).all isWhole = true then some (D.bl true) else none) = _
  rw [if_pos]
  rw [List.all_eq_true]
  intro x hx
  obtain ⟨i, _, rfl⟩ := List.mem_map.mp hx
  rfl

noncomputable def Sm (n : Nat) (i : Int) : Prop := i.natAbs < 2 ^ n
theorem Sm.log {n : Nat} {i : Int} (h : Sm n i) (hn : 0 < n) : i.natAbs.log2 < n := by
  by_cases hz : i.natAbs = 0
  · rw [hz]; exact hn
  · exact (Nat.log2_lt hz).mpr h
theorem Sm.mono {n m : Nat} {i : Int} (h : Sm n i) (k : n ≤ m) : Sm m i := Nat.lt_of_lt_of_le h (Nat.pow_le_pow_right (by decide) k)
theorem Sm.mul {n m : Nat} {i j : Int} (h : Sm n i) (k : Sm m j) : Sm (n + m) (i * j) := by
  unfold Sm at *
  rw [Int.natAbs_mul, Nat.pow_add]
  exact Nat.mul_lt_mul'' h k
theorem Sm.add {n : Nat} {i j : Int} (h : Sm n i) (k : Sm n j) : Sm (n + 1) (i + j) := by
  unfold Sm at *
  have := Int.natAbs_add_le i j
  rw [Nat.pow_succ]
  omega
theorem Sm.neg {n : Nat} {i : Int} (h : Sm n i) : Sm n (-i) := by
  unfold Sm at *
  rwa [Int.natAbs_neg]
theorem Sm.cmul {n m : Nat} {i j : Int} (h : Sm n i) (k : Sm m j) (hn : n ≤ 900000) (hm : m ≤ 900000) : CMul i j := by
  have h1 : 2 ^ n ≤ 2 ^ (n + 1) := Nat.pow_le_pow_right (by decide) (by first | assumption | exact Nat.le_of_lt ‹_› | omega)
  have h2 : 2 ^ m ≤ 2 ^ (m + 1) := Nat.pow_le_pow_right (by decide) (by first | assumption | exact Nat.le_of_lt ‹_› | omega)
  exact .inr (.inr ⟨Nat.lt_of_lt_of_le ((h.mono (Nat.le_succ n)).log (by first | assumption | exact Nat.le_of_lt ‹_› | omega)) (by first | assumption | exact Nat.le_of_lt ‹_› | omega), Nat.lt_of_lt_of_le ((k.mono (Nat.le_succ m)).log (by first | assumption | exact Nat.le_of_lt ‹_› | omega)) (by first | assumption | exact Nat.le_of_lt ‹_› | omega)⟩)
theorem Sm.lit {n : Nat} {i : Int} (h : i.natAbs < 2 ^ n) : Sm n i := h
theorem Sm.of_reach {i : Int} (h : reach i = true) : Sm 20 i := by
  simp [reach] at h
  unfold Sm
  omega
noncomputable def rowD (a : List Int) : D := .tup (a.map D.int)
noncomputable def bD (y : List Int × Int) : D := .tup [rowD y.1, .int y.2]
@[simp] theorem bD_0 (y : List Int × Int) : ixD (bD y) (.int 0) = some (rowD y.1) := by
  show atI [rowD y.1, .int y.2] 0 = _
  exact atI_zero _ _
@[simp] theorem bD_1 (y : List Int × Int) : ixD (bD y) (.int 1) = some (.int y.2) := by
  show atI [rowD y.1, .int y.2] 1 = _
  exact atI_one _ _ _
@[simp] theorem bD_2 (i j : Nat) (y : List Int × Int) (ρ : Rho) : set2 i j (bD y) ρ = some ((ρ.set i (some (.sh (rowD y.1)))).set j (some (.sh (.int y.2)))) := rfl
noncomputable def dot : List Int → List Int → Int
  | a :: as, b :: bs => a * b + dot as bs
  | _, _ => 0
theorem dot_sum : ∀ a b : List Int, (List.zipWith (fun i j => i * j) a b).sum = dot a b
  | [], b => by cases b <;> rfl
  | a :: as, [] => rfl
  | a :: as, b :: bs => by
    show a * b + (List.zipWith (fun i j => i * j) as bs).sum = a * b + dot as bs
    rw [dot_sum as bs]
theorem dec_gt {a b : Int} : decide (a < b) = !decide (b ≤ a) := by
  by_cases h : b ≤ a
  · simp [h]
  · simp [h]; omega
noncomputable def keepB (y p : List Int × Int) : Bool := decide (dot y.1 p.1 ≤ y.2 * p.2)
set_option genSizeOf false in
set_option genInjectivity false in
structure SmP (n : Nat) (y : List Int × Int) : Prop where
  row : ∀ i ∈ y.1, Sm n i
  lim : Sm n y.2
  len : y.1.length ≤ 1000
noncomputable def spec_law_product (F : List D → Option D) : Prop := ∀ (n : Nat) (a b : List Int), n ≤ 900000 → (∀ i ∈ a, Sm n i) → (∀ j ∈ b, Sm n j) → a.length ≤ 1000 → F [rowD a, rowD b] = some (.int (dot a b))
noncomputable def spec_product (F : List D → Option D) : Prop := ∀ (n : Nat) (a b : List Int), n ≤ 900000 → (∀ i ∈ a, Sm n i) → (∀ j ∈ b, Sm n j) → a.length ≤ 1000 → ∀ A B : D, seqD A = some (a.map D.int) → seqD B = some (b.map D.int) → F [A, B] = some (.int (dot a b))
noncomputable def spec_keeps (F : List D → Option D) : Prop := ∀ (n : Nat) (y p : List Int × Int), n ≤ 900000 → SmP n y → SmP n p → F [bD y, bD p] = some (.bl (keepB y p))
noncomputable def spec_law_keeps (F : List D → Option D) : Prop := ∀ (n : Nat) (ys : List (List Int × Int)) (p : List Int × Int), n ≤ 900000 → (∀ y ∈ ys, SmP n y) → SmP n p → ys.length ≤ 1000 → F [.tup (ys.map bD), bD p] = some (.bl (ys.all fun y => keepB y p))
noncomputable def spec_kept (F : List D → Option D) : Prop := ∀ (n : Nat) (ys : List (List Int × Int)) (p : List Int × Int), n ≤ 900000 → (∀ y ∈ ys, SmP n y) → SmP n p → ys.length ≤ 10000 → ∀ Y : D, seqD Y = some (ys.map bD) → F [Y, bD p] = some (.bl (ys.all fun y => keepB y p))
noncomputable def nth (a : List Int) (k : Nat) : Int := a.getD k 0
noncomputable def wRow (ys : List (List Int × Int)) (ws : List Int) (w : Nat) : List Int := (List.range w).map fun k => dot ws (ys.map fun y => nth y.1 k)
noncomputable def wLim (ys : List (List Int × Int)) (ws : List Int) : Int := dot ws (ys.map fun y => y.2)
noncomputable def spec_law_weighed (F : List D → Option D) : Prop := ∀ (n : Nat) (ys : List (List Int × Int)) (ws : List Int) (w : Nat), n ≤ 900000 → (∀ y ∈ ys, SmP n y ∧ y.1.length = w) → (∀ i ∈ ws, Sm n i) → w ≤ 1000 → ys.length ≤ 1000 → ws.length ≤ 1000 →
  F [.tup (ys.map bD), rowD ws, .int w] = some (bD (wRow ys ws w, wLim ys ws))

theorem atI_row {a : List Int} {k : Nat} (h : k < a.length) : atI (a.map D.int) (k : Int) = some (.int (nth a k)) :=
  atI_nat (by rw [List.getElem?_map, List.getElem?_eq_getElem h, nth, List.getD, List.getElem?_eq_getElem h]; rfl)
theorem rng_in (W : Int) (w' : Nat) (h : w' ≤ 1000) (hW : (w':Int) = W) (A B : D) : b1 (cons2 (getS 2) fun x => some []) rng1 [some (.sh A), some (.sh B), some (.sh (.int W)), none] = some ((List.range w').map fun k : Nat => D.int (0 + (k:Int))) := by
  have hWn : W.toNat = w' := by omega
  simp [rng1_small (j := W) (by first | assumption | exact Nat.le_of_lt ‹_› | omega) (by first | assumption | exact Nat.le_of_lt ‹_› | omega), rngL, hWn]
theorem dot_map (g : List Int × Int → Int) (ws : List Int) (ys : List (List Int × Int)) : (List.zipWith (fun i y => i * g y) ws ys).sum = dot ws (ys.map g) := by
  rw [← dot_sum, List.zipWith_map_right]
theorem getD_sm {n : Nat} {a : List Int} {k : Nat} (h : ∀ i ∈ a, Sm n i) : Sm n (nth a k) := by
  by_cases hk : k < a.length
  · rw [nth, List.getD, List.getElem?_eq_getElem hk]
    exact h _ (List.getElem_mem hk)
  · rw [nth, List.getD, List.getElem?_eq_none (by first | assumption | exact Nat.le_of_lt ‹_› | omega)]
    exact Sm.lit (by simp; exact Nat.pow_pos (by decide))
theorem sumD_row (a : List Int) : sumD [.lst (a.map D.int)] = some (.int a.sum) := by
  simp [sumD, seqD, intsD_map]

noncomputable def spec_law_are_weights (F : List D → Option D) : Prop := ∀ (ws : List Int) (m : Int), ws.length ≤ 1000 → F [rowD ws, .int m] = some (.bl (decide ((ws.length : Int) = m) && ws.all fun w => decide (0 ≤ w)))
noncomputable def spec_law_lies_in (F : List D → Option D) : Prop := ∀ (n : Nat) (ys : List (List Int × Int)) (w : Int) (p : List Int × Int), n ≤ 900000 → (∀ y ∈ ys, SmP n y) → SmP n p → ys.length ≤ 1000 → F [.tup (ys.map bD), .int w, bD p] = some (.bl (decide ((p.1.length : Int) = w) && decide (1 ≤ p.2) && ys.all fun y => keepB y p))
noncomputable def isClash (ys : List (List Int × Int)) (w : Nat) (ws : List Int) : Bool :=
  decide (ws.length = ys.length) && ws.all (fun i => decide (0 ≤ i)) && decide ((ws.filter fun i => decide (0 < i)).length ≤ w + 1) && decide (wRow ys ws w = List.replicate w 0) && decide (wLim ys ws < 0)
theorem isRow_row (a : List Int) (w : Int) : isRow (rowD a) w = decide ((a.length : Int) = w) := by
  show ((((a.map D.int).length : Nat) : Int) == w && (a.map D.int).all isWhole) = _
  have : (a.map D.int).all isWhole = true := by simp [isWhole]
  rw [this, Bool.and_true, List.length_map]
  rfl
theorem sh_row {a : List Int} (h : a.length ≤ 1000) : shD (rowD a) = true := shD_mk (by simpa using h) fun x hx => by
  obtain ⟨i, _, rfl⟩ := List.mem_map.mp hx
  rfl
theorem sh_b {y : List Int × Int} (h : y.1.length ≤ 1000) : shD (bD y) = true := shD_mk (by simp) fun x hx => by
  simp at hx
  rcases hx with rfl | rfl
  · exact sh_row h
  · rfl
theorem isPoint_b (p : List Int × Int) (w : Int) : isPoint (bD p) w = (decide ((p.1.length : Int) = w) && decide (1 ≤ p.2)) := by
  show (isRow (rowD p.1) w && decide (1 ≤ p.2)) = _
  rw [isRow_row]

theorem eqDs_ints : ∀ a b : List Int, eqDs (a.map D.int) (b.map D.int) = decide (a = b)
  | [], [] => rfl
  | [], b :: bs => by simp [eqDs]
  | a :: as, [] => by simp [eqDs]
  | a :: as, b :: bs => by
    simp only [List.map_cons, eqDs, eqD, eqDs_ints as bs]
    by_cases h : a = b
    · by_cases h2 : as = bs <;> simp [h, h2]
    · simp [h]
theorem deps_ints : ∀ a : List Int, deps (a.map D.int) = 0
  | [] => rfl
  | a :: as => by simp only [List.map_cons, deps, dep, deps_ints as]; rfl
theorem eqOp_row (a b : List Int) : eqOp (rowD a) (rowD b) = some (.bl (decide (a = b))) := by
  unfold eqOp
  rw [if_pos (by simp only [rowD, dep, deps_ints]; omega)]
  show some (D.bl (eqDs (a.map D.int) (b.map D.int))) = _
  rw [eqDs_ints]
theorem dot_le (n m : Nat) : ∀ a b : List Int, (∀ i ∈ a, Sm n i) → (∀ j ∈ b, Sm m j) → (dot a b).natAbs ≤ a.length * 2 ^ (n + m)
  | [], b, _, _ => by cases b <;> simp [dot]
  | a :: as, [], _, _ => by simp [dot]
  | a :: as, b :: bs, ha, hb => by
    have ih := dot_le n m as bs (fun i hi => ha i (List.mem_cons_of_mem _ hi)) (fun j hj => hb j (List.mem_cons_of_mem _ hj))
    have h1 : (a * b).natAbs < 2 ^ (n + m) := (ha a List.mem_cons_self).mul (hb b List.mem_cons_self)
    have h2 := Int.natAbs_add_le (a * b) (dot as bs)
    show (a * b + dot as bs).natAbs ≤ (as.length + 1) * 2 ^ (n + m)
    rw [Nat.add_mul, Nat.one_mul]
    omega
theorem dot_sm {n m : Nat} {a b : List Int} (ha : ∀ i ∈ a, Sm n i) (hb : ∀ j ∈ b, Sm m j) (hl : a.length ≤ 1000) : Sm (n + m + 10) (dot a b) := by
  have h := dot_le n m a b ha hb
  unfold Sm
  rw [Nat.pow_add]
  have h1 : a.length * 2 ^ (n + m) ≤ 1000 * 2 ^ (n + m) := Nat.mul_le_mul_right _ hl
  have h2 : 0 < 2 ^ (n + m) := Nat.pow_pos (by decide)
  omega
noncomputable def goodTop (ys : List (List Int × Int)) (w : Nat) (aim : List Int) (p : List Int × Int) (ws : List Int) (d : Int) : Bool :=
  (decide (p.1.length = w) && decide (1 ≤ p.2) && ys.all fun y => keepB y p) && (decide (ws.length = ys.length) && ws.all (fun i => decide (0 ≤ i))) && decide (1 ≤ d) && decide (wRow ys ws w = aim.map fun i => d * i) && decide (wLim ys ws * p.2 = d * dot aim p.1)
noncomputable def goodEnd (ys : List (List Int × Int)) (w : Nat) (aim : List Int) (p : List Int × Int) (r : List Int) : Bool :=
  (decide (p.1.length = w) && decide (1 ≤ p.2) && ys.all fun y => keepB y p) && decide (r.length = w) && (ys.all fun y => decide (dot y.1 r ≤ 0)) && decide (0 < dot aim r)
noncomputable def goodReason (ys : List (List Int × Int)) (w : Nat) (b : List Int × Int) (ws : List Int) (d : Int) : Bool :=
  (decide (ws.length = ys.length) && ws.all (fun i => decide (0 ≤ i))) && decide (1 ≤ d) && decide (wRow ys ws w = b.1.map fun i => d * i) && decide (wLim ys ws ≤ d * b.2)
noncomputable def spec_law_reason (F : List D → Option D) : Prop := ∀ (n : Nat) (ys : List (List Int × Int)) (w : Nat) (b : List Int × Int) (ws : List Int) (d : Int), n ≤ 400000 → (∀ y ∈ ys, SmP n y ∧ y.1.length = w) → SmP n b → (∀ i ∈ ws, Sm n i) → Sm n d → 1 ≤ w → w ≤ 3 → ys.length ≤ 1000 → ws.length ≤ 1000 →
  F [.tup (ys.map bD), .int w, bD b, .tup [rowD ws, .int d]] = some (.bl (goodReason ys w b ws d))
theorem atI_three (x y z u : D) (xs : List D) : atI (x :: y :: z :: u :: xs) 3 = some u := atI_nat (j := 3) rfl

set_option genSizeOf false in
set_option genInjectivity false in
structure Bd (w : Int) (y : List Int × Int) : Prop where
  len : (y.1.length : Int) = w
  row : ∀ i ∈ y.1, reach i = true
  lim : reach y.2 = true
theorem Bd.sm {w : Int} {y : List Int × Int} (h : Bd w y) (hw : w ≤ 3) : SmP 20 y := ⟨fun i hi => .of_reach (h.row i hi), .of_reach h.lim, by have := h.len; omega⟩
theorem bounds_ys : ∀ {xs : List D} {w : Int}, (∀ b ∈ xs, isBound b w = true) → ∃ ys : List (List Int × Int), xs = ys.map bD ∧ ∀ y ∈ ys, Bd w y
  | [], _, _ => ⟨[], rfl, fun y hy => by cases hy⟩
  | x :: xs, w, h => by
    obtain ⟨ys, rfl, hy⟩ := bounds_ys fun b hb => h b (List.mem_cons_of_mem _ hb)
    obtain ⟨is, l, rfl, h1, h2, h3⟩ := bound_inv (h x List.mem_cons_self)
    refine ⟨(is, l) :: ys, rfl, fun y hm => ?_⟩
    rcases List.mem_cons.mp hm with rfl | hm
    · exact ⟨h1, h2, h3⟩
    · exact hy y hm
noncomputable def spec_law_yard (F : List D → Option D) : Prop := ∀ n w mo : Int, 1 ≤ w → w ≤ 3 → 0 ≤ mo → mo ≤ 6 → ∃ ys : List (List Int × Int), F [.int n, .int w, .int mo] = some (.tup (ys.map bD)) ∧ ((ys.length : Int) ≤ mo ∧ (ys.length : Int) = n % (mo + 1)) ∧ ∀ y ∈ ys, Bd w y
noncomputable def lastB (y : List Int × Int) : Int := y.1.getLastD 0
noncomputable def restB (p y : List Int × Int) : Int := y.2 * p.2 - dot y.1.dropLast p.1
noncomputable def okL (p y : List Int × Int) : Bool := !(decide (lastB y = 0) && decide (restB p y < 0))
noncomputable def highs (p : List Int × Int) (ys : List (List Int × Int)) : List (Int × Int) := ys.filterMap fun y => if 0 < lastB y then some (restB p y, lastB y) else none
noncomputable def lows (p : List Int × Int) (ys : List (List Int × Int)) : List (Int × Int) := ys.filterMap fun y => if lastB y < 0 then some (-restB p y, -lastB y) else none
noncomputable def leftB (p : List Int × Int) (ys : List (List Int × Int)) : Bool := ys.all (okL p) && (lows p ys).all fun l => (highs p ys).all fun h => decide (l.1 * h.2 ≤ h.1 * l.2)
noncomputable def prD (q : Int × Int) : D := .tup [.int q.1, .int q.2]
@[simp] theorem prD_0 (q : Int × Int) : ixD (prD q) (.int 0) = some (.int q.1) := by
  show atI [D.int q.1, .int q.2] 0 = _
  exact atI_zero _ _
@[simp] theorem prD_1 (q : Int × Int) : ixD (prD q) (.int 1) = some (.int q.2) := by
  show atI [D.int q.1, .int q.2] 1 = _
  exact atI_one _ _ _
@[simp] theorem prD_2 (i j : Nat) (q : Int × Int) (ρ : Rho) : set2 i j (prD q) ρ = some ((ρ.set i (some (.sh (.int q.1)))).set j (some (.sh (.int q.2)))) := rfl
theorem split_last {a : List Int} (h : a ≠ []) : a = a.dropLast ++ [a.getLastD 0] := by
  rcases List.eq_nil_or_concat a with rfl | ⟨r, x, rfl⟩
  · exact absurd rfl h
  · simp
theorem row_last {a : List Int} (h : a ≠ []) : ixD (rowD a) (.int (-1)) = some (.int (a.getLastD 0)) := by
  show atI (a.map D.int) (-1) = _
  rw [show a.map D.int = a.dropLast.map D.int ++ [D.int (a.getLastD 0)] by rw [← List.map_singleton, ← List.map_append, ← split_last h]]
  exact atI_last _ _
theorem row_init {a : List Int} (h : a ≠ []) : sliceD (rowD a) none (some (-1)) = some (rowD a.dropLast) := by
  show some (D.tup (cutD (a.map D.int) none (some (-1)))) = some (D.tup (a.dropLast.map D.int))
  have hl : 0 < a.length := List.length_pos_iff.mpr h
  have e : HT.sIx (a.map D.int).length (a.map D.int).length (some (-1)) = a.length - 1 := by
    rw [List.length_map]
    unfold HT.sIx
    simp
    omega
  unfold cutD
  rw [e, HT.sIx_none, List.drop_zero, Nat.sub_zero, ← List.map_take, List.dropLast_eq_take]
@[simp] theorem bD_inst (y : List Int × Int) : instB .tuple (bD y) = true := rfl
@[simp] theorem bD_len (y : List Int × Int) : lenD [bD y] = some (.int 2) := by
  show lenD [.tup [rowD y.1, .int y.2]] = _
  simp
theorem dot_nil (a : List Int) : dot a [] = 0 := by cases a <;> rfl
theorem dot_zero : ∀ (n : Nat) (p : List Int), dot (List.replicate n 0) p = 0
  | 0, p => by cases p <;> rfl
  | n + 1, [] => rfl
  | n + 1, b :: p => by
    show 0 * b + dot (List.replicate n 0) p = 0
    rw [dot_zero n p]
    omega
theorem dot_scale (c : Int) : ∀ a p : List Int, dot (a.map fun i => c * i) p = c * dot a p
  | [], p => by cases p <;> simp [dot]
  | a :: as, [] => by simp [dot]
  | a :: as, b :: p => by
    show c * a * b + dot (as.map fun i => c * i) p = c * (a * b + dot as p)
    rw [dot_scale c as p, Int.mul_add, Int.mul_assoc]
theorem dot_add : ∀ a b p : List Int, a.length = b.length → dot (List.zipWith (fun i j => i + j) a b) p = dot a p + dot b p
  | [], [], p, _ => by cases p <;> simp [dot]
  | a :: as, b :: bs, [], _ => by simp [dot]
  | a :: as, b :: bs, x :: p, h => by
    show (a + b) * x + dot (List.zipWith (fun i j => i + j) as bs) p = (a * x + dot as p) + (b * x + dot bs p)
    rw [dot_add as bs p (by simpa using h), Int.add_mul]
    omega
theorem wRow_len (ys : List (List Int × Int)) (ws : List Int) (w : Nat) : (wRow ys ws w).length = w := by simp [wRow]
theorem wRow_nil (ys : List (List Int × Int)) (w : Nat) : wRow ys [] w = List.replicate w 0 := by
  apply List.ext_getElem
  · simp [wRow]
  · intro k h1 h2
    simp [wRow, dot]
theorem wRow_nil' (ws : List Int) (w : Nat) : wRow [] ws w = List.replicate w 0 := by
  apply List.ext_getElem
  · simp [wRow]
  · intro k h1 h2
    simp [wRow, dot_nil]
theorem wRow_cons {y : List Int × Int} {w : Nat} (h : y.1.length = w) (ys : List (List Int × Int)) (c : Int) (ws : List Int) : wRow (y :: ys) (c :: ws) w = List.zipWith (fun i j => i + j) (y.1.map fun i => c * i) (wRow ys ws w) := by
  apply List.ext_getElem
  · simp [wRow, h]
  · intro k h1 h2
    have hk : k < y.1.length := by rw [h]; simpa [wRow] using h1
    simp [wRow, dot, nth, hk]
theorem dot_comb {w : Nat} {p : List Int} : ∀ (ys : List (List Int × Int)) (ws : List Int), (∀ y ∈ ys, y.1.length = w) → dot (wRow ys ws w) p = dot ws (ys.map fun y => dot y.1 p)
  | ys, [], _ => by rw [wRow_nil, dot_zero]; cases ys.map (fun y => dot y.1 p) <;> rfl
  | [], c :: ws, _ => by rw [wRow_nil', dot_zero]; rfl
  | y :: ys, c :: ws, h => by
    rw [wRow_cons (h y List.mem_cons_self), dot_add _ _ _ (by rw [List.length_map, wRow_len]; exact h y List.mem_cons_self), dot_scale, dot_comb ys ws fun z hz => h z (List.mem_cons_of_mem _ hz)]
    rfl
theorem dot_mono {f g : List Int × Int → Int} : ∀ (ws : List Int) (ys : List (List Int × Int)), (∀ i ∈ ws, 0 ≤ i) → (∀ y ∈ ys, f y ≤ g y) → dot ws (ys.map f) ≤ dot ws (ys.map g)
  | [], ys, _, _ => by cases ys <;> simp [dot]
  | c :: ws, [], _, _ => by simp [dot]
  | c :: ws, y :: ys, hw, hy => by
    have ih := dot_mono (f := f) (g := g) ws ys (fun i hi => hw i (List.mem_cons_of_mem _ hi)) (fun z hz => hy z (List.mem_cons_of_mem _ hz))
    have := Int.mul_le_mul_of_nonneg_left (hy y List.mem_cons_self) (hw c List.mem_cons_self)
    show c * f y + dot ws (ys.map f) ≤ c * g y + dot ws (ys.map g)
    omega
theorem dot_lim (d : Int) : ∀ (ws : List Int) (ys : List (List Int × Int)), dot ws (ys.map fun y => y.2 * d) = wLim ys ws * d
  | [], ys => by cases ys <;> simp [dot, wLim]
  | c :: ws, [] => by simp [dot, wLim]
  | c :: ws, y :: ys => by
    show c * (y.2 * d) + dot ws (ys.map fun y => y.2 * d) = (c * y.2 + dot ws (ys.map fun y => y.2)) * d
    rw [dot_lim d ws ys, Int.add_mul, Int.mul_assoc]
    rfl
set_option genSizeOf false in
set_option genInjectivity false in
structure Pt (w : Nat) (p : List Int × Int) : Prop where
  len : p.1.length = w
  div : 1 ≤ p.2
noncomputable def InY (ys : List (List Int × Int)) (p : List Int × Int) : Prop := ∀ y ∈ ys, dot y.1 p.1 ≤ y.2 * p.2
theorem inY_all {ys : List (List Int × Int)} {p : List Int × Int} : (ys.all fun y => keepB y p) = true ↔ InY ys p := by
  rw [List.all_eq_true]
  exact ⟨fun h y hy => of_decide_eq_true (h y hy), fun h y hy => decide_eq_true (h y hy)⟩
theorem weigh {ys : List (List Int × Int)} {w : Nat} {ws : List Int} {p : List Int × Int} (hy : ∀ y ∈ ys, y.1.length = w) (hw : ∀ i ∈ ws, 0 ≤ i) (hp : InY ys p) : dot (wRow ys ws w) p.1 ≤ wLim ys ws * p.2 := by
  rw [dot_comb ys ws hy, ← dot_lim]
  exact dot_mono ws ys hw hp
theorem clash_parts {ys : List (List Int × Int)} {w : Nat} {ws : List Int} (h : isClash ys w ws = true) : ws.length = ys.length ∧ (∀ i ∈ ws, 0 ≤ i) ∧ (ws.filter fun i => decide (0 < i)).length ≤ w + 1 ∧ wRow ys ws w = List.replicate w 0 ∧ wLim ys ws < 0 := by
  unfold isClash at h
  simp only [Bool.and_eq_true, decide_eq_true_eq, List.all_eq_true] at h
  exact ⟨h.1.1.1.1, h.1.1.1.2, h.1.1.2, h.1.2, h.2⟩
theorem no_clash {ys : List (List Int × Int)} {w : Nat} {ws : List Int} {p : List Int × Int} (hy : ∀ y ∈ ys, y.1.length = w) (hc : isClash ys w ws = true) (hp : Pt w p) (hi : InY ys p) : False := by
  obtain ⟨_, h2, _, h4, h5⟩ := clash_parts hc
  have h := weigh hy h2 hi
  rw [h4, dot_zero] at h
  have := hp.div
  have : wLim ys ws * p.2 < 0 := Int.mul_neg_of_neg_of_pos h5 (by first | assumption | exact Nat.le_of_lt ‹_› | omega)
  omega
noncomputable def scaleP (c : Int) (p : List Int × Int) : List Int × Int := (p.1.map fun i => i * c, p.2 * c)
theorem dot_scaleR (c : Int) : ∀ a p : List Int, dot a (p.map fun i => i * c) = dot a p * c
  | [], p => by cases p <;> simp [dot]
  | a :: as, [] => by simp [dot]
  | a :: as, b :: p => by
    show a * (b * c) + dot as (p.map fun i => i * c) = (a * b + dot as p) * c
    rw [dot_scaleR c as p, Int.add_mul, Int.mul_assoc]
theorem keep_scale {y p : List Int × Int} {c : Int} (hc : 0 < c) : keepB y (scaleP c p) = keepB y p := by
  unfold keepB scaleP
  refine decide_eq_decide.mpr ?_
  show dot y.1 (p.1.map fun i => i * c) ≤ y.2 * (p.2 * c) ↔ _
  rw [dot_scaleR, ← Int.mul_assoc]
  exact ⟨fun h => Int.le_of_mul_le_mul_right h hc, fun h => Int.mul_le_mul_of_nonneg_right h (Int.le_of_lt hc)⟩
theorem dot_mid (u v : Int) : ∀ a p q : List Int, p.length = q.length → dot a (List.zipWith (fun i j => i * u + j * v) p q) = dot a p * u + dot a q * v
  | [], p, q, _ => by cases p <;> cases q <;> simp [dot]
  | a :: as, [], [], _ => by simp [dot]
  | a :: as, b :: p, c :: q, h => by
    show a * (b * u + c * v) + dot as (List.zipWith (fun i j => i * u + j * v) p q) = (a * b + dot as p) * u + (a * c + dot as q) * v
    rw [dot_mid u v as p q (by simpa using h), Int.mul_add, Int.add_mul, Int.add_mul, ← Int.mul_assoc, ← Int.mul_assoc]
    omega
inductive Der (w : Nat) (ys : List (List Int × Int)) : List Int × Int → Prop
  | base {y : List Int × Int} : y ∈ ys → Der w ys y
  | nought : Der w ys (List.replicate w 0, 0)
  | add {a b : List Int × Int} : Der w ys a → Der w ys b → Der w ys (List.zipWith (fun i j => i + j) a.1 b.1, a.2 + b.2)
  | scale {a : List Int × Int} (c : Int) : 0 ≤ c → Der w ys a → Der w ys (a.1.map fun i => c * i, c * a.2)
theorem fr_trans {a b c : Int × Int} (ha : 0 < a.2) (hb : 0 < b.2) (hc : 0 < c.2) (h1 : a.1 * b.2 ≤ b.1 * a.2) (h2 : b.1 * c.2 ≤ c.1 * b.2) : a.1 * c.2 ≤ c.1 * a.2 := by
  have x := Int.mul_le_mul_of_nonneg_right h1 (Int.le_of_lt hc)
  have y := Int.mul_le_mul_of_nonneg_right h2 (Int.le_of_lt ha)
  have e1 : a.1 * b.2 * c.2 = a.1 * c.2 * b.2 := by simp only [Int.mul_assoc, Int.mul_comm, Int.mul_left_comm]
  have e2 : b.1 * a.2 * c.2 = b.1 * c.2 * a.2 := by simp only [Int.mul_assoc, Int.mul_comm, Int.mul_left_comm]
  have e3 : c.1 * b.2 * a.2 = c.1 * a.2 * b.2 := by simp only [Int.mul_assoc, Int.mul_comm, Int.mul_left_comm]
  rw [e1, e2] at x
  rw [e3] at y
  exact Int.le_of_mul_le_mul_right (Int.le_trans x y) hb
theorem fr_max : ∀ (L : List (Int × Int)), L ≠ [] → (∀ l ∈ L, 0 < l.2) → ∃ m ∈ L, ∀ l ∈ L, l.1 * m.2 ≤ m.1 * l.2
  | [], h, _ => absurd rfl h
  | [a], _, _ => ⟨a, by simp, fun l hl => by simp at hl; subst hl; exact Int.le_refl _⟩
  | a :: b :: L, _, hp => by
    obtain ⟨m, hm, h⟩ := fr_max (b :: L) (by simp) fun l hl => hp l (List.mem_cons_of_mem _ hl)
    have pm := hp m (List.mem_cons_of_mem _ hm)
    have pa := hp a List.mem_cons_self
    by_cases c : a.1 * m.2 ≤ m.1 * a.2
    · exact ⟨m, List.mem_cons_of_mem _ hm, fun l hl => by
        rcases List.mem_cons.mp hl with rfl | hl
        · exact c
        · exact h l hl⟩
    · exact ⟨a, List.mem_cons_self, fun l hl => by
        rcases List.mem_cons.mp hl with rfl | hl
        · exact Int.le_refl _
        · exact fr_trans (hp l (List.mem_cons_of_mem _ hl)) pm pa (h l hl) (by first | assumption | exact Nat.le_of_lt ‹_› | omega)⟩
theorem fr_min (L : List (Int × Int)) (hn : L ≠ []) (hp : ∀ l ∈ L, 0 < l.2) : ∃ m ∈ L, ∀ l ∈ L, m.1 * l.2 ≤ l.1 * m.2 := by
  obtain ⟨m, hm, h⟩ := fr_max (L.map fun l => (-l.1, l.2)) (by simpa using hn) (fun l hl => by
    obtain ⟨k, hk, rfl⟩ := List.mem_map.mp hl
    exact hp k hk)
  obtain ⟨k, hk, rfl⟩ := List.mem_map.mp hm
  refine ⟨k, hk, fun l hl => ?_⟩
  have := h _ (List.mem_map.mpr ⟨l, hl, rfl⟩)
  simp only [Int.neg_mul] at this
  omega
theorem between (L U : List (Int × Int)) (hL : ∀ l ∈ L, 0 < l.2) (hU : ∀ u ∈ U, 0 < u.2) (h : ∀ l ∈ L, ∀ u ∈ U, l.1 * u.2 ≤ u.1 * l.2) : ∃ t : Int × Int, 0 < t.2 ∧ (∀ l ∈ L, l.1 * t.2 ≤ t.1 * l.2) ∧ (∀ u ∈ U, t.1 * u.2 ≤ u.1 * t.2) := by
  by_cases hl : L = []
  · by_cases hu : U = []
    · subst hl hu
      exact ⟨(0, 1), by decide, fun l hl => by simp at hl, fun l hl => by simp at hl⟩
    · obtain ⟨m, hm, q⟩ := fr_min U hu hU
      subst hl
      exact ⟨m, hU m hm, fun l hl => by simp at hl, q⟩
  · obtain ⟨m, hm, q⟩ := fr_max L hl hL
    exact ⟨m, hL m hm, q, fun u hu => h m hm u hu⟩
noncomputable def hd (y : List Int × Int) : Int := y.1.headD 0
noncomputable def tld (y : List Int × Int) : List Int × Int := (y.1.tail, y.2)
noncomputable def comb (p n : List Int × Int) : List Int × Int := (List.zipWith (fun i j => i + j) (p.1.map fun i => -hd n * i) (n.1.map fun i => hd p * i), -hd n * p.2 + hd p * n.2)
noncomputable def elim (ys : List (List Int × Int)) : List (List Int × Int) := ((ys.filter fun y => decide (hd y = 0)).map tld) ++ (ys.filter fun y => decide (0 < hd y)).flatMap fun p => (ys.filter fun y => decide (hd y < 0)).map fun n => tld (comb p n)
theorem cons_of {y : List Int × Int} {w : Nat} (h : y.1.length = w + 1) : y.1 = hd y :: y.1.tail := by
  unfold hd
  cases e : y.1 with
  | nil => rw [e] at h; simp at h
  | cons a as => rfl
theorem comb_cons {p n : List Int × Int} {w : Nat} (hp : p.1.length = w + 1) (hn : n.1.length = w + 1) : (comb p n).1 = 0 :: (comb p n).1.tail := by
  unfold comb
  rw [cons_of hp, cons_of hn]
  simp [hd]
  have : -n.1.head?.getD 0 * p.1.head?.getD 0 + p.1.head?.getD 0 * n.1.head?.getD 0 = 0 := by
    rw [Int.neg_mul, Int.mul_comm]
    omega
  exact this
theorem der_elim {w : Nat} {ys : List (List Int × Int)} (hy : ∀ y ∈ ys, y.1.length = w + 1) {r : List Int × Int} (h : Der w (elim ys) r) : Der (w + 1) ys (0 :: r.1, r.2) := by
  induction h with
  | base hm =>
    rename_i y
    rcases List.mem_append.mp hm with hm | hm
    · obtain ⟨z, hz, rfl⟩ := List.mem_map.mp hm
      obtain ⟨hz, h0⟩ := List.mem_filter.mp hz
      have e := cons_of (hy z hz)
      rw [of_decide_eq_true h0] at e
      have : (0 :: (tld z).1, (tld z).2) = z := by
        unfold tld
        rw [← e]
      rw [this]
      exact .base hz
    · obtain ⟨p, hp, hm⟩ := List.mem_flatMap.mp hm
      obtain ⟨n, hn, rfl⟩ := List.mem_map.mp hm
      obtain ⟨hp, p0⟩ := List.mem_filter.mp hp
      obtain ⟨hn, n0⟩ := List.mem_filter.mp hn
      have p0 := of_decide_eq_true p0
      have n0 := of_decide_eq_true n0
      have e := comb_cons (hy p hp) (hy n hn)
      have : (0 :: (tld (comb p n)).1, (tld (comb p n)).2) = comb p n := by
        show (0 :: (comb p n).1.tail, (comb p n).2) = comb p n
        rw [← e]
      rw [this]
      exact .add (.scale _ (by first | assumption | exact Nat.le_of_lt ‹_› | omega) (.base hp)) (.scale _ (by first | assumption | exact Nat.le_of_lt ‹_› | omega) (.base hn))
  | nought => exact .nought
  | add _ _ i1 i2 => exact .add i1 i2
  | scale c hc _ i =>
    have := Der.scale c hc i
    simpa using this
theorem elim_len {w : Nat} {ys : List (List Int × Int)} (hy : ∀ y ∈ ys, y.1.length = w + 1) : ∀ y ∈ elim ys, y.1.length = w := fun y hm => by
  rcases List.mem_append.mp hm with hm | hm
  · obtain ⟨z, hz, rfl⟩ := List.mem_map.mp hm
    have := hy z (List.mem_filter.mp hz).1
    simp [tld, this]
  · obtain ⟨p, hp, hm⟩ := List.mem_flatMap.mp hm
    obtain ⟨n, hn, rfl⟩ := List.mem_map.mp hm
    have h1 := hy p (List.mem_filter.mp hp).1
    have h2 := hy n (List.mem_filter.mp hn).1
    simp [tld, comb, h1, h2]
noncomputable def restH (q y : List Int × Int) : Int := y.2 * q.2 - dot y.1.tail q.1
theorem comb_dot {p n : List Int × Int} {w : Nat} (hp : p.1.length = w + 1) (hn : n.1.length = w + 1) (q : List Int) : dot (comb p n).1.tail q = -hd n * dot p.1.tail q + hd p * dot n.1.tail q := by
  have e : (comb p n).1.tail = List.zipWith (fun i j => i + j) (p.1.tail.map fun i => -hd n * i) (n.1.tail.map fun i => hd p * i) := by
    unfold comb
    rw [List.tail_zipWith]
    simp
  rw [e, dot_add _ _ _ (by simp [hp, hn]), dot_scale, dot_scale]
theorem lift_point {w : Nat} {ys : List (List Int × Int)} {q : List Int × Int} (hy : ∀ y ∈ ys, y.1.length = w + 1) (hq : Pt w q) (hi : InY (elim ys) q) : ∃ p, Pt (w + 1) p ∧ InY ys p := by
  obtain ⟨t, t0, tl, tu⟩ := between ((ys.filter fun y => decide (hd y < 0)).map fun y => (-restH q y, -hd y)) ((ys.filter fun y => decide (0 < hd y)).map fun y => (restH q y, hd y))
    (fun l hl => by
      obtain ⟨y, hm, rfl⟩ := List.mem_map.mp hl
      have := of_decide_eq_true (List.mem_filter.mp hm).2
      show 0 < -hd y
      omega)
    (fun l hl => by
      obtain ⟨y, hm, rfl⟩ := List.mem_map.mp hl
      exact of_decide_eq_true (List.mem_filter.mp hm).2)
    (fun l hl u hu => by
      obtain ⟨n, hn, rfl⟩ := List.mem_map.mp hl
      obtain ⟨p, hp, rfl⟩ := List.mem_map.mp hu
      have hpl := hy p (List.mem_filter.mp hp).1
      have hnl := hy n (List.mem_filter.mp hn).1
      have k := hi (tld (comb p n)) (List.mem_append_right _ (List.mem_flatMap.mpr ⟨p, hp, List.mem_map.mpr ⟨n, hn, rfl⟩⟩))
      have k : dot (comb p n).1.tail q.1 ≤ (-hd n * p.2 + hd p * n.2) * q.2 := k
      rw [comb_dot hpl hnl] at k
      show -restH q n * hd p ≤ restH q p * -hd n
      unfold restH
      have e1 : -(n.2 * q.2 - dot n.1.tail q.1) * hd p = hd p * dot n.1.tail q.1 - hd p * n.2 * q.2 := by
        rw [Int.neg_sub, Int.sub_mul, Int.mul_comm _ (hd p), Int.mul_comm _ (hd p), Int.mul_assoc]
      have e2 : (p.2 * q.2 - dot p.1.tail q.1) * -hd n = -hd n * p.2 * q.2 - -hd n * dot p.1.tail q.1 := by
        rw [Int.mul_comm, Int.mul_sub, Int.mul_assoc]
      rw [e1, e2]
      rw [Int.add_mul] at k
      omega)
  refine ⟨(t.1 :: q.1.map fun i => i * t.2, q.2 * t.2), ⟨by simp [hq.len], ?_⟩, fun y hm => ?_⟩
  · have := Int.mul_pos (show 0 < q.2 by have := hq.div; omega) t0
    show 1 ≤ q.2 * t.2
    omega
  · show dot y.1 (t.1 :: q.1.map fun i => i * t.2) ≤ y.2 * (q.2 * t.2)
    rw [cons_of (hy y hm)]
    show hd y * t.1 + dot y.1.tail (q.1.map fun i => i * t.2) ≤ _
    rw [dot_scaleR, ← Int.mul_assoc]
    have key : hd y * t.1 ≤ restH q y * t.2 → hd y * t.1 + dot y.1.tail q.1 * t.2 ≤ y.2 * q.2 * t.2 := fun k => by
      unfold restH at k
      rw [Int.sub_mul] at k
      omega
    apply key
    rcases Int.lt_trichotomy (hd y) 0 with h | h | h
    · have := tl _ (List.mem_map.mpr ⟨y, List.mem_filter.mpr ⟨hm, decide_eq_true h⟩, rfl⟩)
      have : -restH q y * t.2 ≤ t.1 * -hd y := this
      rw [Int.neg_mul, Int.mul_neg, Int.mul_comm t.1] at this
      omega
    · have := hi (tld y) (List.mem_append_left _ (List.mem_map.mpr ⟨y, List.mem_filter.mpr ⟨hm, decide_eq_true h⟩, rfl⟩))
      have : dot y.1.tail q.1 ≤ y.2 * q.2 := this
      rw [h, Int.zero_mul]
      exact Int.mul_nonneg (by unfold restH; omega) (by first | assumption | exact Nat.le_of_lt ‹_› | omega)
    · have := tu _ (List.mem_map.mpr ⟨y, List.mem_filter.mpr ⟨hm, decide_eq_true h⟩, rfl⟩)
      have : t.1 * hd y ≤ restH q y * t.2 := this
      rw [Int.mul_comm]
      exact this
theorem farkas : ∀ (w : Nat) (ys : List (List Int × Int)), (∀ y ∈ ys, y.1.length = w) → (∃ p, Pt w p ∧ InY ys p) ∨ ∃ l, l < 0 ∧ Der w ys (List.replicate w 0, l)
  | 0, ys, hy => by
    by_cases h : ∃ y ∈ ys, y.2 < 0
    · obtain ⟨y, hm, hl⟩ := h
      refine .inr ⟨y.2, hl, ?_⟩
      have : y = (List.replicate 0 0, y.2) := by
        have := List.length_eq_zero_iff.mp (hy y hm)
        show y = ([], y.2)
        rw [← this]
      rw [← this]
      exact .base hm
    · refine .inl ⟨([], 1), ⟨rfl, by decide⟩, fun y hm => ?_⟩
      have h1 : ¬ y.2 < 0 := fun z => h ⟨y, hm, z⟩
      show dot y.1 [] ≤ y.2 * 1
      rw [dot_nil]
      omega
  | w + 1, ys, hy => by
    rcases farkas w (elim ys) (elim_len hy) with ⟨q, hq, hi⟩ | ⟨l, hl, h⟩
    · exact .inl (lift_point hy hq hi)
    · exact .inr ⟨l, hl, der_elim hy h⟩
theorem wRow_zero {ys : List (List Int × Int)} {w : Nat} : ∀ n : Nat, wRow ys (List.replicate n 0) w = List.replicate w 0 := fun n => by
  apply List.ext_getElem
  · simp [wRow]
  · intro k h1 h2
    simp [wRow, dot_zero]
theorem zip_zero : ∀ (a : List Int) (n : Nat), a.length = n → List.zipWith (fun i j => i + j) a (List.replicate n 0) = a
  | [], 0, _ => rfl
  | a :: as, n + 1, h => by
    show (a + 0) :: List.zipWith (fun i j => i + j) as (List.replicate n 0) = a :: as
    rw [zip_zero as n (by simpa using h), Int.add_zero]
theorem zero_zip : ∀ (a b : List Int), a.length = b.length → List.zipWith (fun i j => i + j) (a.map fun i => 0 * i) b = b
  | [], [], _ => rfl
  | a :: as, b :: bs, h => by
    show (0 * a + b) :: List.zipWith (fun i j => i + j) (as.map fun i => 0 * i) bs = b :: bs
    rw [zero_zip as bs (by simpa using h), Int.zero_mul, Int.zero_add]
theorem unit_weights {w : Nat} : ∀ {ys : List (List Int × Int)} {y : List Int × Int}, (∀ y ∈ ys, y.1.length = w) → y ∈ ys → ∃ ws : List Int, ws.length = ys.length ∧ (∀ i ∈ ws, 0 ≤ i) ∧ wRow ys ws w = y.1 ∧ wLim ys ws = y.2
  | z :: ys, y, hy, hm => by
    by_cases h : y = z
    · subst h
      refine ⟨1 :: List.replicate ys.length 0, by simp, fun i hi => ?_, ?_, ?_⟩
      · rcases List.mem_cons.mp hi with rfl | hi
        · decide
        · rw [(List.mem_replicate.mp hi).2]; decide
      · rw [wRow_cons (hy y List.mem_cons_self), wRow_zero]
        rw [show (y.1.map fun i => 1 * i) = y.1 by simp, zip_zero _ _ (hy y List.mem_cons_self)]
      · show 1 * y.2 + dot (List.replicate ys.length 0) (ys.map fun y => y.2) = y.2
        rw [dot_zero]
        omega
    · obtain ⟨ws, h1, h2, h3, h4⟩ := unit_weights (fun z hz => hy z (List.mem_cons_of_mem _ hz)) ((List.mem_cons.mp hm).resolve_left h)
      refine ⟨0 :: ws, by simp [h1], fun i hi => ?_, ?_, ?_⟩
      · rcases List.mem_cons.mp hi with rfl | hi
        · decide
        · exact h2 i hi
      · rw [wRow_cons (hy z List.mem_cons_self), h3, zero_zip]
        rw [hy z List.mem_cons_self, hy y hm]
      · show 0 * z.2 + dot ws (ys.map fun y => y.2) = y.2
        have : dot ws (ys.map fun y => y.2) = y.2 := h4
        omega
theorem der_weights {w : Nat} {ys : List (List Int × Int)} (hy : ∀ y ∈ ys, y.1.length = w) {r : List Int × Int} (h : Der w ys r) : ∃ ws : List Int, ws.length = ys.length ∧ (∀ i ∈ ws, 0 ≤ i) ∧ wRow ys ws w = r.1 ∧ wLim ys ws = r.2 := by
  induction h with
  | base hm => exact unit_weights hy hm
  | nought => exact ⟨List.replicate ys.length 0, by simp, fun i hi => by rw [(List.mem_replicate.mp hi).2]; decide, wRow_zero _, dot_zero _ _⟩
  | add _ _ i1 i2 =>
    obtain ⟨a, a1, a2, a3, a4⟩ := i1
    obtain ⟨b, b1, b2, b3, b4⟩ := i2
    refine ⟨List.zipWith (fun i j => i + j) a b, by simp [a1, b1], fun i hi => ?_, ?_, ?_⟩
    · rw [List.mem_iff_getElem] at hi
      obtain ⟨k, hk, rfl⟩ := hi
      rw [List.getElem_zipWith]
      rw [List.length_zipWith] at hk
      have := a2 _ (List.getElem_mem (show k < a.length by omega))
      have := b2 _ (List.getElem_mem (show k < b.length by omega))
      omega
    · rw [← a3, ← b3]
      apply List.ext_getElem
      · simp [wRow]
      · intro k h1 h2
        simp [wRow, dot_add _ _ _ (show a.length = b.length by omega)]
    · show dot (List.zipWith (fun i j => i + j) a b) _ = _
      rw [dot_add _ _ _ (by first | assumption | exact Nat.le_of_lt ‹_› | omega), ← a4, ← b4]
      rfl
  | scale c hc _ i =>
    obtain ⟨a, a1, a2, a3, a4⟩ := i
    refine ⟨a.map fun i => c * i, by simp [a1], fun i hi => ?_, ?_, ?_⟩
    · obtain ⟨j, hj, rfl⟩ := List.mem_map.mp hi
      exact Int.mul_nonneg hc (a2 j hj)
    · rw [← a3]
      apply List.ext_getElem
      · simp [wRow]
      · intro k h1 h2
        simp [wRow, dot_scale]
    · show dot (a.map fun i => c * i) _ = _
      rw [dot_scale, ← a4]
      rfl
noncomputable def sumF (f : Nat → Int) : Nat → Int
  | 0 => 0
  | n + 1 => sumF f n + f n
theorem sumF_congr {f g : Nat → Int} : ∀ n : Nat, (∀ i, i < n → f i = g i) → sumF f n = sumF g n
  | 0, _ => rfl
  | n + 1, h => by
    show sumF f n + f n = sumF g n + g n
    rw [sumF_congr n fun i hi => h i (by first | assumption | exact Nat.le_of_lt ‹_› | omega), h n (by first | assumption | exact Nat.le_of_lt ‹_› | omega)]
theorem sumF_zero : ∀ n : Nat, sumF (fun _ => 0) n = 0
  | 0 => rfl
  | n + 1 => by
    show sumF (fun _ => 0) n + 0 = 0
    rw [sumF_zero n]
    rfl
theorem sumF_lin (a b : Int) (f g : Nat → Int) : ∀ n : Nat, sumF (fun i => a * f i + b * g i) n = a * sumF f n + b * sumF g n
  | 0 => by simp [sumF]
  | n + 1 => by
    show sumF (fun i => a * f i + b * g i) n + (a * f n + b * g n) = a * (sumF f n + f n) + b * (sumF g n + g n)
    rw [sumF_lin a b f g n, Int.mul_add, Int.mul_add]
    omega
theorem sumF_at (f : Nat → Int) (j : Nat) (x : Int) : ∀ n : Nat, sumF (fun i => if i = j then x else f i) n = if j < n then sumF f n + (x - f j) else sumF f n
  | 0 => by simp [sumF]
  | n + 1 => by
    show sumF (fun i => if i = j then x else f i) n + (if n = j then x else f n) = _
    rw [sumF_at f j x n]
    by_cases h1 : j < n
    · rw [if_pos h1, if_neg (by first | assumption | exact Nat.le_of_lt ‹_› | omega), if_pos (by first | assumption | exact Nat.le_of_lt ‹_› | omega)]
      show _ = sumF f n + f n + (x - f j)
      omega
    · by_cases h2 : n = j
      · subst h2
        rw [if_neg h1, if_pos rfl, if_pos (by first | assumption | exact Nat.le_of_lt ‹_› | omega)]
        show _ = sumF f n + f n + (x - f n)
        omega
      · rw [if_neg h1, if_neg h2, if_neg (by first | assumption | exact Nat.le_of_lt ‹_› | omega)]
        rfl
noncomputable def cntF (S : Nat → Bool) : Nat → Nat
  | 0 => 0
  | n + 1 => cntF S n + if S n = true then 1 else 0
theorem cntF_pos {S : Nat → Bool} : ∀ n : Nat, 0 < cntF S n → ∃ i, i < n ∧ S i = true
  | 0, h => by simp [cntF] at h
  | n + 1, h => by
    by_cases c : S n = true
    · exact ⟨n, by omega, c⟩
    · have : cntF S (n + 1) = cntF S n := by show cntF S n + (if S n = true then 1 else 0) = _; rw [if_neg c]; rfl
      rw [this] at h
      obtain ⟨i, hi, hs⟩ := cntF_pos n h
      exact ⟨i, Nat.lt_succ_of_lt hi, hs⟩
theorem cntF_off {S : Nat → Bool} {j : Nat} (hj : S j = true) : ∀ n : Nat, cntF (fun i => if i = j then false else S i) n + (if j < n then 1 else 0) = cntF S n
  | 0 => by simp [cntF]
  | n + 1 => by
    have ih := cntF_off hj n
    show cntF (fun i => if i = j then false else S i) n + (if (if n = j then false else S n) = true then 1 else 0) + (if j < n + 1 then 1 else 0) = cntF S n + (if S n = true then 1 else 0)
    by_cases h2 : n = j
    · subst h2
      rw [if_neg (by first | assumption | exact Nat.le_of_lt ‹_› | omega)] at ih
      rw [if_pos rfl, if_neg (by decide), if_pos (show n < n + 1 by omega), if_pos hj]
      omega
    · rw [if_neg h2]
      by_cases h1 : j < n
      · rw [if_pos h1] at ih
        rw [if_pos (show j < n + 1 by omega)]
        omega
      · rw [if_neg h1] at ih
        rw [if_neg (show ¬ j < n + 1 by omega)]
        omega
theorem depend (m : Nat) : ∀ (n : Nat) (S : Nat → Bool) (v : Nat → Nat → Int), n < cntF S m → ∃ l : Nat → Int, (∀ i, S i = false → l i = 0) ∧ (∃ i, i < m ∧ l i ≠ 0) ∧ ∀ k, k < n → sumF (fun i => l i * v i k) m = 0
  | 0, S, v, h => by
    obtain ⟨i, hi, hs⟩ := cntF_pos m h
    refine ⟨fun j => if j = i then 1 else 0, fun j hj => ?_, ⟨i, hi, by simp⟩, fun k hk => absurd hk (by first | assumption | exact Nat.le_of_lt ‹_› | omega)⟩
    by_cases e : j = i
    · subst e
      rw [hs] at hj
      cases hj
    · simp [e]
  | n + 1, S, v, h => by
    by_cases c : ∃ j, j < m ∧ S j = true ∧ v j n ≠ 0
    · obtain ⟨j, hj, hs, h0⟩ := c
      have hc := cntF_off hs m
      rw [if_pos hj] at hc
      obtain ⟨l, l1, ⟨i0, hi0, l2⟩, l3⟩ := depend m n (fun i => if i = j then false else S i) (fun i k => v j n * v i k - v i n * v j k) (by first | assumption | exact Nat.le_of_lt ‹_› | omega)
      have lj : l j = 0 := l1 j (by simp)
      refine ⟨fun i => if i = j then -(sumF (fun i => l i * v i n) m) else v j n * l i, fun i hi => ?_, ⟨i0, hi0, ?_⟩, fun k hk => ?_⟩
      · by_cases e : i = j
        · subst e; rw [hs] at hi; cases hi
        · simp only [if_neg e]
          rw [l1 i (by simp [e, hi]), Int.mul_zero]
      · have e : i0 ≠ j := fun e => l2 (by rw [e]; exact lj)
        simp only [if_neg e]
        exact Int.mul_ne_zero h0 l2
      · have e1 : sumF (fun i => (if i = j then -(sumF (fun i => l i * v i n) m) else v j n * l i) * v i k) m = sumF (fun i => if i = j then -(sumF (fun i => l i * v i n) m) * v j k else v j n * (l i * v i k) + 0 * (l i * v i k)) m := sumF_congr m fun i _ => by
          by_cases e : i = j
          · subst e; simp
          · simp only [if_neg e]
            rw [Int.mul_assoc]
            omega
        rw [e1, sumF_at, if_pos hj, sumF_lin, lj]
        by_cases hkn : k < n
        · have q := l3 k hkn
          have e2 : sumF (fun i => l i * (v j n * v i k - v i n * v j k)) m = v j n * sumF (fun i => l i * v i k) m + -(v j k) * sumF (fun i => l i * v i n) m := by
            rw [← sumF_lin]
            exact sumF_congr m fun i _ => by
              rw [Int.mul_sub, Int.mul_left_comm, Int.neg_mul, Int.mul_comm (v i n), Int.mul_left_comm (l i) (v j k)]
              omega
          rw [e2, Int.neg_mul, Int.mul_comm (v j k)] at q
          rw [Int.neg_mul]
          omega
        · have : k = n := by omega
          subst this
          rw [Int.neg_mul, Int.mul_comm (sumF _ m)]
          omega
    · obtain ⟨l, l1, l2, l3⟩ := depend m n S v (by first | assumption | exact Nat.le_of_lt ‹_› | omega)
      refine ⟨l, l1, l2, fun k hk => ?_⟩
      by_cases hkn : k < n
      · exact l3 k hkn
      · have : k = n := by omega
        subst this
        rw [sumF_congr (g := fun _ => 0) m fun i hi => ?_]
        · exact sumF_zero m
        · by_cases hs : S i = true
          · have : v i k = 0 := Classical.byContradiction fun z => c ⟨i, hi, hs, z⟩
            rw [this, Int.mul_zero]
          · rw [l1 i (by simpa using hs), Int.zero_mul]
theorem cntF_mono {A B : Nat → Bool} : ∀ n : Nat, (∀ i, i < n → A i = true → B i = true) → cntF A n ≤ cntF B n
  | 0, _ => Nat.le_refl _
  | n + 1, h => by
    have ih := cntF_mono n fun i hi => h i (by first | assumption | exact Nat.le_of_lt ‹_› | omega)
    show cntF A n + (if A n = true then 1 else 0) ≤ cntF B n + (if B n = true then 1 else 0)
    by_cases c : A n = true
    · rw [if_pos c, if_pos (h n (by first | assumption | exact Nat.le_of_lt ‹_› | omega) c)]
      omega
    · rw [if_neg c]
      omega
theorem sumF_head (f : Nat → Int) : ∀ n : Nat, sumF f (n + 1) = f 0 + sumF (fun i => f (i + 1)) n
  | 0 => by simp [sumF]
  | n + 1 => by
    show sumF f (n + 1) + f (n + 1) = f 0 + (sumF (fun i => f (i + 1)) n + f (n + 1))
    rw [sumF_head f n]
    omega
theorem cntF_head (S : Nat → Bool) : ∀ n : Nat, cntF S (n + 1) = (if S 0 = true then 1 else 0) + cntF (fun i => S (i + 1)) n
  | 0 => by simp [cntF]
  | n + 1 => by
    show cntF S (n + 1) + (if S (n + 1) = true then 1 else 0) = _ + (cntF (fun i => S (i + 1)) n + (if S (n + 1) = true then 1 else 0))
    rw [cntF_head S n]
    omega
theorem dot_F : ∀ a b : List Int, a.length = b.length → dot a b = sumF (fun i => nth a i * nth b i) a.length
  | [], [], _ => rfl
  | a :: as, b :: bs, h => by
    show a * b + dot as bs = sumF _ (as.length + 1)
    rw [sumF_head, dot_F as bs (by simpa using h)]
    rfl
theorem cnt_F : ∀ a : List Int, (a.filter fun i => decide (0 < i)).length = cntF (fun i => decide (0 < nth a i)) a.length
  | [] => rfl
  | a :: as => by
    show _ = cntF _ (as.length + 1)
    rw [cntF_head, ← show _ = cntF (fun i => decide (0 < nth (a :: as) (i + 1))) as.length from cnt_F as]
    by_cases h : 0 < a
    · rw [List.filter_cons_of_pos (by simpa using h)]
      have : decide (0 < nth (a :: as) 0) = true := decide_eq_true h
      rw [if_pos this]
      simp
      omega
    · rw [List.filter_cons_of_neg (by simpa using h)]
      have : ¬ decide (0 < nth (a :: as) 0) = true := fun z => h (of_decide_eq_true z)
      rw [if_neg this]
      omega
noncomputable def vF (ys : List (List Int × Int)) (w : Nat) (i k : Nat) : Int := if k < w then nth (ys.map fun y => nth y.1 k) i else nth (ys.map fun y => y.2) i
theorem wRow_F {ys : List (List Int × Int)} {ws : List Int} {w : Nat} (hl : ws.length = ys.length) : wRow ys ws w = List.replicate w 0 ↔ ∀ k, k < w → sumF (fun i => nth ws i * vF ys w i k) ws.length = 0 := by
  have e : ∀ k, k < w → dot ws (ys.map fun y => nth y.1 k) = sumF (fun i => nth ws i * vF ys w i k) ws.length := fun k hk => by
    rw [dot_F _ _ (by simp [hl])]
    exact sumF_congr _ fun i _ => by unfold vF; rw [if_pos hk]
  constructor
  · intro h k hk
    rw [← e k hk]
    have h1 : (wRow ys ws w)[k]'(by rw [wRow_len]; exact hk) = 0 := by simp [h]
    simpa [wRow] using h1
  · intro h
    apply List.ext_getElem
    · simp [wRow]
    · intro k h1 h2
      have hk : k < w := by simpa [wRow] using h1
      simp [wRow]
      rw [e k hk]
      exact h k hk
theorem wLim_F {ys : List (List Int × Int)} {ws : List Int} {w : Nat} (hl : ws.length = ys.length) : wLim ys ws = sumF (fun i => nth ws i * vF ys w i w) ws.length := by
  unfold wLim
  rw [dot_F _ _ (by simp [hl])]
  exact sumF_congr _ fun i _ => by unfold vF; rw [if_neg (by first | assumption | exact Nat.le_of_lt ‹_› | omega)]
theorem nth_range (f : Nat → Int) {m i : Nat} (h : i < m) : nth ((List.range m).map f) i = f i := by
  unfold nth
  simp [h]
theorem nth_neg {ws : List Int} (h : ∀ i ∈ ws, 0 ≤ i) (k : Nat) : 0 ≤ nth ws k := by
  unfold nth
  by_cases hk : k < ws.length
  · rw [List.getD, List.getElem?_eq_getElem hk]
    exact h _ (List.getElem_mem hk)
  · rw [List.getD, List.getElem?_eq_none (by first | assumption | exact Nat.le_of_lt ‹_› | omega)]
    exact Int.le_refl _
theorem fewer {w : Nat} {ys : List (List Int × Int)} {ws : List Int} (hl : ws.length = ys.length) (h0 : ∀ i ∈ ws, 0 ≤ i) (hr : wRow ys ws w = List.replicate w 0) (hm : wLim ys ws < 0) (hc : w + 1 < (ws.filter fun i => decide (0 < i)).length) :
    ∃ us : List Int, us.length = ys.length ∧ (∀ i ∈ us, 0 ≤ i) ∧ wRow ys us w = List.replicate w 0 ∧ wLim ys us < 0 ∧ (us.filter fun i => decide (0 < i)).length < (ws.filter fun i => decide (0 < i)).length := by
  rw [cnt_F] at hc ⊢
  rw [wRow_F hl] at hr
  rw [wLim_F (w := w) hl] at hm
  obtain ⟨l0, a1, ⟨i0, hi0, a2⟩, a3⟩ := depend ws.length (w + 1) _ (vF ys w) hc
  obtain ⟨l, l1, ⟨i1, hi1, l2⟩, l3⟩ : ∃ l : Nat → Int, (∀ i, decide (0 < nth ws i) = false → l i = 0) ∧ (∃ i, i < ws.length ∧ 0 < l i) ∧ ∀ k, k < w + 1 → sumF (fun i => l i * vF ys w i k) ws.length = 0 := by
    by_cases c : 0 < l0 i0
    · exact ⟨l0, a1, ⟨i0, hi0, c⟩, a3⟩
    · refine ⟨fun i => -l0 i, fun i hi => by show -l0 i = 0; rw [a1 i hi]; rfl, ⟨i0, hi0, by show 0 < -l0 i0; omega⟩, fun k hk => ?_⟩
      have := sumF_lin (-1) 0 (fun i => l0 i * vF ys w i k) (fun _ => 0) ws.length
      rw [a3 k hk, sumF_zero] at this
      rw [sumF_congr (g := fun i => -1 * (l0 i * vF ys w i k) + 0 * 0) _ fun i _ => by rw [Int.neg_mul]; omega]
      exact this
  obtain ⟨t, ht, hmin⟩ := fr_min (((List.range ws.length).filter fun i => decide (0 < l i)).map fun i => (nth ws i, l i)) (by
    intro z
    have : i1 ∈ (List.range ws.length).filter fun i => decide (0 < l i) := List.mem_filter.mpr ⟨List.mem_range.mpr hi1, decide_eq_true l2⟩
    rw [List.map_eq_nil_iff] at z
    rw [z] at this
    simp at this) (fun x hx => by
    obtain ⟨i, hi, rfl⟩ := List.mem_map.mp hx
    exact of_decide_eq_true (List.mem_filter.mp hi).2)
  obtain ⟨j, hj, rfl⟩ := List.mem_map.mp ht
  have hjm := List.mem_range.mp (List.mem_filter.mp hj).1
  have hjl : 0 < l j := of_decide_eq_true (List.mem_filter.mp hj).2
  have hmin : ∀ i, i < ws.length → 0 < l i → nth ws j * l i ≤ nth ws i * l j := fun i hi h => hmin _ (List.mem_map.mpr ⟨i, List.mem_filter.mpr ⟨List.mem_range.mpr hi, decide_eq_true h⟩, rfl⟩)
  have n0 := nth_neg h0
  have f0 : ∀ i, i < ws.length → 0 ≤ l j * nth ws i + -(nth ws j) * l i := fun i hi => by
    rw [Int.neg_mul]
    by_cases h : 0 < l i
    · have := hmin i hi h
      rw [Int.mul_comm (nth ws i)] at this
      omega
    · have h1 := Int.mul_nonneg (Int.le_of_lt hjl) (n0 i)
      have h2 := Int.mul_nonneg (n0 j) (show 0 ≤ -l i by omega)
      rw [Int.mul_neg] at h2
      omega
  have hlen : ((List.range ws.length).map fun i => l j * nth ws i + -(nth ws j) * l i).length = ws.length := by simp
  have sm : ∀ k, sumF (fun i => nth ((List.range ws.length).map fun i => l j * nth ws i + -(nth ws j) * l i) i * vF ys w i k) ws.length = l j * sumF (fun i => nth ws i * vF ys w i k) ws.length + -(nth ws j) * sumF (fun i => l i * vF ys w i k) ws.length := fun k => by
    rw [← sumF_lin]
    exact sumF_congr _ fun i hi => by rw [nth_range _ hi, Int.add_mul, Int.mul_assoc, Int.mul_assoc]
  refine ⟨(List.range ws.length).map fun i => l j * nth ws i + -(nth ws j) * l i, by rw [hlen, hl], fun x hx => ?_, ?_, ?_, ?_⟩
  · obtain ⟨i, hi, rfl⟩ := List.mem_map.mp hx
    exact f0 i (List.mem_range.mp hi)
  · rw [wRow_F (by rw [hlen, hl]), hlen]
    intro k hk
    rw [sm k, hr k hk, l3 k (by first | assumption | exact Nat.le_of_lt ‹_› | omega)]
    simp
  · rw [wLim_F (w := w) (by rw [hlen, hl]), hlen, sm w, l3 w (by first | assumption | exact Nat.le_of_lt ‹_› | omega), Int.mul_zero, Int.add_zero]
    exact Int.mul_neg_of_pos_of_neg hjl hm
  · rw [cnt_F, hlen]
    have sj : decide (0 < nth ws j) = true := by
      cases h : decide (0 < nth ws j) with
      | true => rfl
      | false => rw [l1 j h] at hjl; omega
    have off := cntF_off (S := fun i => decide (0 < nth ws i)) (j := j) sj ws.length
    rw [if_pos hjm] at off
    have mono := cntF_mono (A := fun i => decide (0 < nth ((List.range ws.length).map fun i => l j * nth ws i + -(nth ws j) * l i) i)) (B := fun i => if i = j then false else decide (0 < nth ws i)) ws.length (fun i hi h => by
      rw [nth_range _ hi] at h
      have h := of_decide_eq_true h
      by_cases e : i = j
      · subst e
        rw [Int.neg_mul, Int.mul_comm] at h
        omega
      · rw [if_neg e]
        cases c : decide (0 < nth ws i) with
        | true => rfl
        | false =>
          rw [l1 i c] at h
          have h1 := n0 i
          have h2 := of_decide_eq_false c
          rw [show nth ws i = 0 by omega] at h
          simp at h)
    omega
theorem few_weights {w : Nat} {ys : List (List Int × Int)} : ∀ (n : Nat) (ws : List Int), (ws.filter fun i => decide (0 < i)).length ≤ n → ws.length = ys.length → (∀ i ∈ ws, 0 ≤ i) → wRow ys ws w = List.replicate w 0 → wLim ys ws < 0 → ∃ us, isClash ys w us = true
  | n, ws, hn, hl, h0, hr, hm => by
    by_cases hc : (ws.filter fun i => decide (0 < i)).length ≤ w + 1
    · refine ⟨ws, ?_⟩
      unfold isClash
      simp only [Bool.and_eq_true, decide_eq_true_eq, List.all_eq_true]
      exact ⟨⟨⟨⟨hl, h0⟩, hc⟩, hr⟩, hm⟩
    · obtain ⟨us, u1, u2, u3, u4, u5⟩ := fewer hl h0 hr hm (by first | assumption | exact Nat.le_of_lt ‹_› | omega)
      match n with
      | 0 => omega
      | n + 1 => exact few_weights n us (by first | assumption | exact Nat.le_of_lt ‹_› | omega) u1 u2 u3 u4
theorem point_or_clash {w : Nat} {ys : List (List Int × Int)} (hy : ∀ y ∈ ys, y.1.length = w) : (∃ p, Pt w p ∧ InY ys p) ∨ ∃ ws, isClash ys w ws = true := by
  rcases farkas w ys hy with h | ⟨l, hl, h⟩
  · exact .inl h
  · obtain ⟨ws, h1, h2, h3, h4⟩ := der_weights hy h
    exact .inr (few_weights _ ws (Nat.le_refl _) h1 h2 h3 (by rw [h4]; exact hl))
noncomputable def cnt (w : List Int) : Nat := (w.filter fun i => decide (0 < i)).length
set_option genSizeOf false in
set_option genInjectivity false in
structure Wt (m : Nat) (w : List Int) : Prop where
  len : w.length = m
  nn : ∀ i ∈ w, 0 ≤ i
noncomputable def Nz (w : List Int) : Prop := ∃ i, 0 < nth w i
noncomputable def Sbs (u w : List Int) : Prop := ∀ i, 0 < nth u i → 0 < nth w i
theorem Sbs.trans {a b c : List Int} (h : Sbs a b) (k : Sbs b c) : Sbs a c := fun i z => k i (h i z)
theorem Sbs.refl (a : List Int) : Sbs a a := fun _ z => z
theorem nth_out {w : List Int} {i : Nat} (h : w.length ≤ i) : nth w i = 0 := by
  unfold nth
  rw [List.getD, List.getElem?_eq_none h]
  rfl
theorem nth_lt {w : List Int} {i : Nat} (h : 0 < nth w i) : i < w.length := by
  rcases Nat.lt_or_ge i w.length with z | z
  · exact z
  · rw [nth_out z] at h
    omega
theorem Sbs.cnt_le {m : Nat} {u w : List Int} (hu : u.length = m) (hw : w.length = m) (h : Sbs u w) : cnt u ≤ cnt w := by
  unfold cnt
  rw [cnt_F, cnt_F, hu, hw]
  exact cntF_mono m fun i _ z => decide_eq_true (h i (of_decide_eq_true z))
theorem reduce {m : Nat} {w v : List Int} (hw : Wt m w) (hv : Wt m v) (nz : Nz v) (sub : Sbs v w) : ∃ (a b : Int) (u : List Int), 0 < a ∧ 0 < b ∧ Wt m u ∧ Sbs u w ∧ cnt u < cnt w ∧ ∀ c : List Int, c.length = m → dot u c = a * dot w c - b * dot v c := by
  obtain ⟨i1, hi1⟩ := nz
  have hi1m : i1 < m := by rw [← hv.len]; exact nth_lt hi1
  obtain ⟨t, ht, hmin⟩ := fr_min (((List.range m).filter fun i => decide (0 < nth v i)).map fun i => (nth w i, nth v i)) (by
    intro z
    have : i1 ∈ (List.range m).filter fun i => decide (0 < nth v i) := List.mem_filter.mpr ⟨List.mem_range.mpr hi1m, decide_eq_true hi1⟩
    rw [List.map_eq_nil_iff] at z
    rw [z] at this
    simp at this) (fun x hx => by
    obtain ⟨i, hi, rfl⟩ := List.mem_map.mp hx
    exact of_decide_eq_true (List.mem_filter.mp hi).2)
  obtain ⟨j, hj, rfl⟩ := List.mem_map.mp ht
  have hjm := List.mem_range.mp (List.mem_filter.mp hj).1
  have hjl : 0 < nth v j := of_decide_eq_true (List.mem_filter.mp hj).2
  have hmin : ∀ i, i < m → 0 < nth v i → nth w j * nth v i ≤ nth w i * nth v j := fun i hi h => hmin _ (List.mem_map.mpr ⟨i, List.mem_filter.mpr ⟨List.mem_range.mpr hi, decide_eq_true h⟩, rfl⟩)
  have w0 := nth_neg hw.nn
  have v0 := nth_neg hv.nn
  have hwj := sub j hjl
  have f0 : ∀ i, i < m → 0 ≤ nth v j * nth w i + -(nth w j) * nth v i := fun i hi => by
    rw [Int.neg_mul]
    by_cases h : 0 < nth v i
    · have := hmin i hi h
      rw [Int.mul_comm (nth w i)] at this
      omega
    · have h1 := Int.mul_nonneg (Int.le_of_lt hjl) (w0 i)
      have h2 := v0 i
      rw [show nth v i = 0 by omega]
      omega
  have hlen : ((List.range m).map fun i => nth v j * nth w i + -(nth w j) * nth v i).length = m := by simp
  have sb : Sbs ((List.range m).map fun i => nth v j * nth w i + -(nth w j) * nth v i) w := fun i hi => by
    have him : i < m := by have := nth_lt hi; omega
    rw [nth_range _ him] at hi
    rcases Int.lt_or_le 0 (nth w i) with z | z
    · exact z
    · have h1 := w0 i
      have h2 := v0 i
      rw [show nth w i = 0 by omega, Int.neg_mul] at hi
      have := Int.mul_nonneg (w0 j) h2
      omega
  refine ⟨nth v j, nth w j, (List.range m).map fun i => nth v j * nth w i + -(nth w j) * nth v i, hjl, hwj, ⟨hlen, fun x hx => ?_⟩, sb, ?_, fun c hc => ?_⟩
  · obtain ⟨i, hi, rfl⟩ := List.mem_map.mp hx
    exact f0 i (List.mem_range.mp hi)
  · unfold cnt
    rw [cnt_F, cnt_F, hlen, hw.len]
    have off := cntF_off (S := fun i => decide (0 < nth w i)) (j := j) (decide_eq_true hwj) m
    rw [if_pos hjm] at off
    have mono := cntF_mono (A := fun i => decide (0 < nth ((List.range m).map fun i => nth v j * nth w i + -(nth w j) * nth v i) i)) (B := fun i => if i = j then false else decide (0 < nth w i)) m (fun i hi h => by
      have h := of_decide_eq_true h
      by_cases e : i = j
      · subst e
        rw [nth_range _ hi, Int.neg_mul, Int.mul_comm] at h
        omega
      · rw [if_neg e]
        exact decide_eq_true (sb i h))
    omega
  · rw [dot_F _ _ (by rw [hlen, hc]), hlen, dot_F w c (by rw [hw.len, hc]), dot_F v c (by rw [hv.len, hc]), hw.len, hv.len]
    have := sumF_lin (nth v j) (-(nth w j)) (fun i => nth w i * nth c i) (fun i => nth v i * nth c i) m
    rw [Int.neg_mul] at this
    rw [Int.sub_eq_add_neg, ← this]
    exact sumF_congr _ fun i hi => by rw [nth_range _ hi, Int.add_mul, Int.mul_assoc, Int.mul_assoc]
set_option genSizeOf false in
set_option genInjectivity false in
structure Cn (m : Nat) (cols : List (List Int)) (w : List Int) : Prop where
  wt : Wt m w
  zero : ∀ c ∈ cols, dot w c = 0
theorem Wt.zero {m : Nat} {w : List Int} (h : Wt m w) (hz : ¬ Nz w) (c : List Int) (hc : c.length = m) : dot w c = 0 := by
  rw [dot_F w c (by rw [h.len, hc]), sumF_congr (g := fun _ => 0) _ fun i _ => ?_, sumF_zero]
  have h1 := nth_neg h.nn i
  have h2 : ¬ 0 < nth w i := fun z => hz ⟨i, z⟩
  rw [show nth w i = 0 by omega, Int.zero_mul]
set_option genSizeOf false in
set_option genInjectivity false in
structure Lv (m : Nat) (cols L : List (List Int)) : Prop where
  col : ∀ c ∈ cols, c.length = m
  cn : ∀ v ∈ L, Cn m cols v
  nz : ∀ v ∈ L, Nz v
  few : ∀ v ∈ L, cnt v ≤ cols.length + 1
  cov : ∀ w, Cn m cols w → Nz w → ∃ v ∈ L, Sbs v w
theorem Lv.neg {m : Nat} {cols L : List (List Int)} (h : Lv m cols L) {c : List Int} (hc : c.length = m) : ∀ (n : Nat) (w : List Int), cnt w ≤ n → Cn m cols w → dot w c < 0 → ∃ v ∈ L, Sbs v w ∧ dot v c < 0 := by
  intro n
  induction n with
  | zero =>
    intro w hn hw hd
    have nz : Nz w := Classical.byContradiction fun z => by rw [hw.wt.zero z c hc] at hd; omega
    obtain ⟨v, hv, sub⟩ := h.cov w hw nz
    obtain ⟨a, b, u, ha, hb, hu, su, cu, du⟩ := reduce hw.wt (h.cn v hv).wt (h.nz v hv) sub
    omega
  | succ n ih =>
    intro w hn hw hd
    have nz : Nz w := Classical.byContradiction fun z => by rw [hw.wt.zero z c hc] at hd; omega
    obtain ⟨v, hv, sub⟩ := h.cov w hw nz
    by_cases hvc : dot v c < 0
    · exact ⟨v, hv, sub, hvc⟩
    · obtain ⟨a, b, u, ha, hb, hu, su, cu, du⟩ := reduce hw.wt (h.cn v hv).wt (h.nz v hv) sub
      have h1 := Int.mul_neg_of_pos_of_neg ha hd
      have h2 := Int.mul_nonneg (Int.le_of_lt hb) (show 0 ≤ dot v c by omega)
      obtain ⟨v', hv', s', d'⟩ := ih u (by first | assumption | exact Nat.le_of_lt ‹_› | omega) ⟨hu, fun c' hc' => by rw [du c' (h.col c' hc'), hw.zero c' hc', (h.cn v hv).zero c' hc', Int.mul_zero, Int.mul_zero]; rfl⟩ (by rw [du c hc]; omega)
      exact ⟨v', hv', s'.trans su, d'⟩
theorem dot_negR (w : List Int) : ∀ c : List Int, dot w (c.map fun i => -i) = -dot w c := fun c => by
  induction w generalizing c with
  | nil => cases c <;> rfl
  | cons a as ih =>
    cases c with
    | nil => rfl
    | cons b bs =>
      show a * -b + dot as (bs.map fun i => -i) = -(a * b + dot as bs)
      rw [ih, Int.mul_neg]
      omega
theorem Lv.pos {m : Nat} {cols L : List (List Int)} (h : Lv m cols L) {c : List Int} (hc : c.length = m) (w : List Int) (hw : Cn m cols w) (hd : 0 < dot w c) : ∃ v ∈ L, Sbs v w ∧ 0 < dot v c := by
  obtain ⟨v, h1, h2, h3⟩ := h.neg (c := c.map fun i => -i) (by simp [hc]) _ w (Nat.le_refl _) hw (by rw [dot_negR]; omega)
  rw [dot_negR] at h3
  exact ⟨v, h1, h2, by omega⟩
theorem fewerG {m : Nat} {cols : List (List Int)} (hcol : ∀ c ∈ cols, c.length = m) {ws : List Int} (hw : Cn m cols ws) (hc : cols.length + 1 < cnt ws) : ∃ us, Cn m cols us ∧ Nz us ∧ Sbs us ws ∧ cnt us < cnt ws := by
  have hn : Nz ws := by
    unfold cnt at hc
    rw [cnt_F] at hc
    have z : 0 < cntF (fun i => decide (0 < nth ws i)) ws.length := by omega
    obtain ⟨i, _, hi⟩ := cntF_pos _ z
    exact ⟨i, of_decide_eq_true hi⟩
  have hl := hw.wt.len
  have n0 := nth_neg hw.wt.nn
  unfold cnt at hc
  rw [cnt_F, hl] at hc
  obtain ⟨l0, a1, ⟨i0, hi0, a2⟩, a3⟩ := depend m (cols.length + 1) _ (fun i k => if k < cols.length then nth (cols.getD k []) i else 1) hc
  obtain ⟨l, l1, ⟨i1, hi1, l2⟩, l3⟩ : ∃ l : Nat → Int, (∀ i, decide (0 < nth ws i) = false → l i = 0) ∧ (∃ i, i < m ∧ 0 < l i) ∧ ∀ k, k < cols.length + 1 → sumF (fun i => l i * (if k < cols.length then nth (cols.getD k []) i else 1)) m = 0 := by
    by_cases c : 0 < l0 i0
    · exact ⟨l0, a1, ⟨i0, hi0, c⟩, a3⟩
    · refine ⟨fun i => -l0 i, fun i hi => by show -l0 i = 0; rw [a1 i hi]; rfl, ⟨i0, hi0, by show 0 < -l0 i0; omega⟩, fun k hk => ?_⟩
      have := sumF_lin (-1) 0 (fun i => l0 i * (if k < cols.length then nth (cols.getD k []) i else 1)) (fun _ => 0) m
      rw [a3 k hk, sumF_zero] at this
      rw [sumF_congr (g := fun i => -1 * (l0 i * (if k < cols.length then nth (cols.getD k []) i else 1)) + 0 * 0) _ fun i _ => by rw [Int.neg_mul]; omega]
      exact this
  obtain ⟨t, ht, hmin⟩ := fr_min (((List.range m).filter fun i => decide (0 < l i)).map fun i => (nth ws i, l i)) (by
    intro z
    have : i1 ∈ (List.range m).filter fun i => decide (0 < l i) := List.mem_filter.mpr ⟨List.mem_range.mpr hi1, decide_eq_true l2⟩
    rw [List.map_eq_nil_iff] at z
    rw [z] at this
    simp at this) (fun x hx => by
    obtain ⟨i, hi, rfl⟩ := List.mem_map.mp hx
    exact of_decide_eq_true (List.mem_filter.mp hi).2)
  obtain ⟨j, hj, rfl⟩ := List.mem_map.mp ht
  have hjm := List.mem_range.mp (List.mem_filter.mp hj).1
  have hjl : 0 < l j := of_decide_eq_true (List.mem_filter.mp hj).2
  have hmin : ∀ i, i < m → 0 < l i → nth ws j * l i ≤ nth ws i * l j := fun i hi h => hmin _ (List.mem_map.mpr ⟨i, List.mem_filter.mpr ⟨List.mem_range.mpr hi, decide_eq_true h⟩, rfl⟩)
  have f0 : ∀ i, i < m → 0 ≤ l j * nth ws i + -(nth ws j) * l i := fun i hi => by
    rw [Int.neg_mul]
    by_cases h : 0 < l i
    · have := hmin i hi h
      rw [Int.mul_comm (nth ws i)] at this
      omega
    · have h1 := Int.mul_nonneg (Int.le_of_lt hjl) (n0 i)
      have h2 := Int.mul_nonneg (n0 j) (show 0 ≤ -l i by omega)
      rw [Int.mul_neg] at h2
      omega
  have hlen : ((List.range m).map fun i => l j * nth ws i + -(nth ws j) * l i).length = m := by simp
  have sj : 0 < nth ws j := by
    cases h : decide (0 < nth ws j) with
    | true => exact of_decide_eq_true h
    | false => rw [l1 j h] at hjl; omega
  have sb : Sbs ((List.range m).map fun i => l j * nth ws i + -(nth ws j) * l i) ws := fun i h => by
    have hi : i < m := by have := nth_lt h; omega
    rw [nth_range _ hi] at h
    cases c : decide (0 < nth ws i) with
    | true => exact of_decide_eq_true c
    | false =>
      rw [l1 i c] at h
      have h1 := n0 i
      have h2 := of_decide_eq_false c
      rw [show nth ws i = 0 by omega] at h
      simp at h
  have sm : ∀ f : Nat → Int, sumF (fun i => nth ((List.range m).map fun i => l j * nth ws i + -(nth ws j) * l i) i * f i) m = l j * sumF (fun i => nth ws i * f i) m + -(nth ws j) * sumF (fun i => l i * f i) m := fun f => by
    rw [← sumF_lin]
    exact sumF_congr _ fun i hi => by rw [nth_range _ hi, Int.add_mul, Int.mul_assoc, Int.mul_assoc]
  refine ⟨(List.range m).map fun i => l j * nth ws i + -(nth ws j) * l i, ⟨⟨hlen, fun x hx => ?_⟩, fun c hc' => ?_⟩, ?_, sb, ?_⟩
  · obtain ⟨i, hi, rfl⟩ := List.mem_map.mp hx
    exact f0 i (List.mem_range.mp hi)
  · obtain ⟨k, hk, rfl⟩ := List.mem_iff_getElem.mp hc'
    have z := hw.zero _ hc'
    have q := l3 k (by first | assumption | exact Nat.le_of_lt ‹_› | omega)
    simp only [if_pos hk] at q
    rw [List.getD, List.getElem?_eq_getElem hk, Option.getD_some] at q
    rw [dot_F _ _ (by rw [hl, hcol _ hc']), hl] at z
    rw [dot_F _ _ (by rw [hlen, hcol _ hc']), hlen, sm, z, q]
    simp
  · refine Classical.byContradiction fun z => ?_
    have q := l3 cols.length (by first | assumption | exact Nat.le_of_lt ‹_› | omega)
    simp only [Nat.lt_irrefl, if_false] at q
    have e := sm fun _ => 1
    rw [q, Int.mul_zero, Int.add_zero] at e
    have e0 : sumF (fun i => nth ((List.range m).map fun i => l j * nth ws i + -(nth ws j) * l i) i * 1) m = 0 := by
      rw [sumF_congr (g := fun _ => 0) _ fun i hi => ?_, sumF_zero]
      have h1 : ¬ 0 < nth ((List.range m).map fun i => l j * nth ws i + -(nth ws j) * l i) i := fun y => z ⟨i, y⟩
      have h2 := f0 i hi
      rw [← nth_range (fun i => l j * nth ws i + -(nth ws j) * l i) hi] at h2
      rw [show nth ((List.range m).map fun i => l j * nth ws i + -(nth ws j) * l i) i = 0 by omega]
      rfl
    rw [e0] at e
    have hs : 0 < sumF (fun i => nth ws i * 1) m := by
      have mono : ∀ n, (∀ k, k ≤ n → 0 ≤ sumF (fun i => nth ws i * 1) k) ∧ (j < n → 0 < sumF (fun i => nth ws i * 1) n) := fun n => by
        induction n with
        | zero => exact ⟨fun k hk => by rw [show k = 0 by omega]; exact Int.le_refl _, fun h => absurd h (by first | assumption | exact Nat.le_of_lt ‹_› | omega)⟩
        | succ n ih =>
          have p1 : sumF (fun i => nth ws i * 1) (n + 1) = sumF (fun i => nth ws i * 1) n + nth ws n * 1 := rfl
          have p2 := n0 n
          have p3 := ih.1 n (Nat.le_refl _)
          refine ⟨fun k hk => ?_, fun h => ?_⟩
          · rcases Nat.lt_or_ge n k with y | y
            · rw [show k = n + 1 by omega, p1]; omega
            · exact ih.1 k y
          · rcases Nat.lt_or_ge j n with y | y
            · have := ih.2 y; rw [p1]; omega
            · have : j = n := by omega
              subst this
              rw [p1]; omega
      exact (mono m).2 hjm
    have := Int.mul_pos hjl hs
    omega
  · unfold cnt
    rw [cnt_F, cnt_F, hlen, hl]
    have off := cntF_off (S := fun i => decide (0 < nth ws i)) (j := j) (decide_eq_true sj) m
    rw [if_pos hjm] at off
    have mono := cntF_mono (A := fun i => decide (0 < nth ((List.range m).map fun i => l j * nth ws i + -(nth ws j) * l i) i)) (B := fun i => if i = j then false else decide (0 < nth ws i)) m (fun i hi h => by
      have h := of_decide_eq_true h
      by_cases e : i = j
      · subst e
        rw [nth_range _ hi, Int.neg_mul, Int.mul_comm] at h
        omega
      · rw [if_neg e]
        exact decide_eq_true (sb i h))
    omega
theorem fewG {m : Nat} {cols : List (List Int)} (hcol : ∀ c ∈ cols, c.length = m) : ∀ (n : Nat) (ws : List Int), cnt ws ≤ n → Cn m cols ws → Nz ws → ∃ us, Cn m cols us ∧ Nz us ∧ Sbs us ws ∧ cnt us ≤ cols.length + 1
  | n, ws, hn, hw, nz => by
    by_cases hc : cnt ws ≤ cols.length + 1
    · exact ⟨ws, hw, nz, Sbs.refl _, hc⟩
    · obtain ⟨us, u1, u2, u3, u4⟩ := fewerG hcol hw (by first | assumption | exact Nat.le_of_lt ‹_› | omega)
      match n with
      | 0 => omega
      | n + 1 =>
        obtain ⟨vs, v1, v2, v3, v4⟩ := fewG hcol n us (by first | assumption | exact Nat.le_of_lt ‹_› | omega) u1 u2
        exact ⟨vs, v1, v2, v3.trans u3, v4⟩

noncomputable def combW (r f c : List Int) : List Int := List.zipWith (fun i j => -dot f c * i + dot r c * j) r f
noncomputable def gcdL (a : List Int) : Nat := a.foldl (fun g i => Nat.gcd g i.natAbs) 0
noncomputable def divL (a : List Int) : Int := if 1 > (gcdL a : Int) then 1 else gcdL a
noncomputable def shortL (a : List Int) : List Int := a.map fun i => i / divL a
theorem gcd_fold : ∀ (a : List Int) (g : Nat), a.foldl (fun g i => Nat.gcd g i.natAbs) g ∣ g ∧ ∀ i ∈ a, ((a.foldl (fun g i => Nat.gcd g i.natAbs) g : Nat) : Int) ∣ i
  | [], g => ⟨Nat.dvd_refl _, fun i hi => by simp at hi⟩
  | b :: a, g => by
    obtain ⟨h1, h2⟩ := gcd_fold a (Nat.gcd g b.natAbs)
    refine ⟨Nat.dvd_trans h1 (Nat.gcd_dvd_left _ _), fun i hi => ?_⟩
    rcases List.mem_cons.mp hi with rfl | hi
    · exact Int.ofNat_dvd_left.mpr (Nat.dvd_trans h1 (Nat.gcd_dvd_right _ _))
    · exact h2 i hi
theorem divL_pos (a : List Int) : 0 < divL a := by
  unfold divL
  split <;> omega
theorem divL_dvd {a : List Int} {i : Int} (h : i ∈ a) : divL a ∣ i := by
  unfold divL
  split
  · exact Int.one_dvd i
  · exact (gcd_fold a 0).2 i h
theorem short_mul (a : List Int) : (shortL a).map (fun i => divL a * i) = a := by
  unfold shortL
  rw [List.map_map]
  refine (List.map_congr_left fun i hi => ?_).trans (List.map_id a)
  exact Int.mul_ediv_cancel' (divL_dvd hi)
theorem short_len (a : List Int) : (shortL a).length = a.length := by simp [shortL]
theorem nth_map {f : Int → Int} (hf : f 0 = 0) (a : List Int) (k : Nat) : nth (a.map f) k = f (nth a k) := by
  unfold nth
  rcases Nat.lt_or_ge k a.length with h | h
  · simp [List.getD, h]
  · simp [List.getD, List.getElem?_eq_none h, hf]
theorem short_nth (a : List Int) (k : Nat) : divL a * nth (shortL a) k = nth a k := by
  have e : nth ((shortL a).map fun i => divL a * i) k = nth a k := by rw [short_mul]
  rwa [nth_map (by simp)] at e
theorem short_dot (a c : List Int) : divL a * dot (shortL a) c = dot a c := by
  rw [← dot_scale, short_mul]
theorem short_pos {a : List Int} {k : Nat} : 0 < nth (shortL a) k ↔ 0 < nth a k := by
  rw [← short_nth a k]
  refine ⟨fun h => Int.mul_pos (divL_pos a) h, fun h => ?_⟩
  rcases Int.lt_or_le 0 (nth (shortL a) k) with z | z
  · exact z
  · have := Int.mul_nonneg (Int.le_of_lt (divL_pos a)) (show 0 ≤ -nth (shortL a) k by omega)
    rw [Int.mul_neg] at this
    omega
theorem short_nn {a : List Int} (h : ∀ i ∈ a, 0 ≤ i) : ∀ i ∈ shortL a, 0 ≤ i := fun i hi => by
  obtain ⟨j, hj, rfl⟩ := List.mem_map.mp hi
  exact Int.ediv_nonneg (h j hj) (Int.le_of_lt (divL_pos a))
theorem short_wt {m : Nat} {a : List Int} (h : Wt m a) : Wt m (shortL a) := ⟨by rw [short_len]; exact h.len, short_nn h.nn⟩
theorem cnt_of {m : Nat} {a b : List Int} (ha : a.length = m) (hb : b.length = m) (h : ∀ k, 0 < nth a k ↔ 0 < nth b k) : cnt a = cnt b := by
  have h1 := Sbs.cnt_le ha hb fun i z => (h i).mp z
  have h2 := Sbs.cnt_le hb ha fun i z => (h i).mpr z
  omega
theorem short_zero {a c : List Int} (h : dot a c = 0) : dot (shortL a) c = 0 := by
  have e := short_dot a c
  rw [h] at e
  rcases Int.mul_eq_zero.mp e with z | z
  · have := divL_pos a
    omega
  · exact z
noncomputable def usedL (r f : List Int) : Nat := ((List.zip r f).filter fun x => decide (0 < x.1) || decide (0 < x.2)).length
theorem nth_zipW (p n : Int) : ∀ (r f : List Int) (k : Nat), r.length = f.length → nth (List.zipWith (fun i j => p * i + n * j) r f) k = p * nth r k + n * nth f k
  | [], [], k, _ => by simp [nth]
  | a :: r, b :: f, 0, _ => rfl
  | a :: r, b :: f, k + 1, h => nth_zipW p n r f k (by simpa using h)
theorem pos_comb {p n a b : Int} (hp : 0 < p) (hn : 0 < n) (ha : 0 ≤ a) (hb : 0 ≤ b) : 0 < p * a + n * b ↔ 0 < a ∨ 0 < b := by
  have h1 := Int.mul_nonneg (Int.le_of_lt hp) ha
  have h2 := Int.mul_nonneg (Int.le_of_lt hn) hb
  constructor
  · intro h
    rcases Int.lt_or_le 0 a with z | z
    · exact .inl z
    · rcases Int.lt_or_le 0 b with y | y
      · exact .inr y
      · rw [show a = 0 by omega, show b = 0 by omega] at h
        omega
  · rintro (h | h)
    · have := Int.mul_pos hp h; omega
    · have := Int.mul_pos hn h; omega
theorem cnt_zipW {p n : Int} (hp : 0 < p) (hn : 0 < n) : ∀ (r f : List Int), r.length = f.length → (∀ i ∈ r, 0 ≤ i) → (∀ i ∈ f, 0 ≤ i) → cnt (List.zipWith (fun i j => p * i + n * j) r f) = usedL r f
  | [], [], _, _, _ => rfl
  | a :: r, b :: f, h, hr, hf => by
    have ih := cnt_zipW hp hn r f (by simpa using h) (fun i hi => hr i (List.mem_cons_of_mem _ hi)) (fun i hi => hf i (List.mem_cons_of_mem _ hi))
    have k := pos_comb hp hn (hr a List.mem_cons_self) (hf b List.mem_cons_self)
    unfold cnt usedL at *
    show (List.filter _ ((p * a + n * b) :: List.zipWith (fun i j => p * i + n * j) r f)).length = (List.filter _ ((a, b) :: List.zip r f)).length
    by_cases z : 0 < a ∨ 0 < b
    · rw [List.filter_cons_of_pos (by simpa using k.mpr z), List.filter_cons_of_pos (by simpa using z), List.length_cons, List.length_cons, ih]
    · rw [List.filter_cons_of_neg (by simpa using fun y => z (k.mp y)), List.filter_cons_of_neg (by simpa using z), ih]
section
variable {m : Nat} {r f c : List Int}
theorem comb_nth (hr : Wt m r) (hf : Wt m f) (k : Nat) : nth (combW r f c) k = -dot f c * nth r k + dot r c * nth f k := nth_zipW _ _ r f k (by rw [hr.len, hf.len])
theorem dot_zipW (p n : Int) (d : List Int) : ∀ (r f : List Int), r.length = f.length → dot (List.zipWith (fun i j => p * i + n * j) r f) d = p * dot r d + n * dot f d
  | [], [], _ => by simp [dot]
  | a :: r, b :: f, h => by
    cases d with
    | nil => simp [dot]
    | cons x d =>
      have ih := dot_zipW p n d r f (by simpa using h)
      show (p * a + n * b) * x + dot (List.zipWith (fun i j => p * i + n * j) r f) d = p * (a * x + dot r d) + n * (b * x + dot f d)
      rw [ih, Int.add_mul, Int.mul_add, Int.mul_add, Int.mul_assoc, Int.mul_assoc]
      omega
theorem combW_dot (hr : Wt m r) (hf : Wt m f) (d : List Int) : dot (combW r f c) d = -dot f c * dot r d + dot r c * dot f d := dot_zipW _ _ d r f (by rw [hr.len, hf.len])
theorem comb_wt (hr : Wt m r) (hf : Wt m f) (h1 : 0 < dot r c) (h2 : dot f c < 0) : Wt m (combW r f c) := by
  refine ⟨by simp [combW, hr.len, hf.len], fun i hi => ?_⟩
  obtain ⟨k, hk, rfl⟩ := List.mem_iff_getElem.mp hi
  have e : (combW r f c)[k] = nth (combW r f c) k := by simp [nth, hk]
  rw [e, comb_nth hr hf]
  have a := Int.mul_nonneg (show 0 ≤ -dot f c by omega) (nth_neg hr.nn k)
  have b := Int.mul_nonneg (show 0 ≤ dot r c by omega) (nth_neg hf.nn k)
  omega
theorem comb_pos (hr : Wt m r) (hf : Wt m f) (h1 : 0 < dot r c) (h2 : dot f c < 0) (k : Nat) : 0 < nth (combW r f c) k ↔ 0 < nth r k ∨ 0 < nth f k := by
  rw [comb_nth hr hf]
  exact pos_comb (by first | assumption | exact Nat.le_of_lt ‹_› | omega) h1 (nth_neg hr.nn k) (nth_neg hf.nn k)
theorem comb_cnt (hr : Wt m r) (hf : Wt m f) (h1 : 0 < dot r c) (h2 : dot f c < 0) : cnt (combW r f c) = usedL r f := cnt_zipW (by first | assumption | exact Nat.le_of_lt ‹_› | omega) h1 r f (by rw [hr.len, hf.len]) hr.nn hf.nn
theorem combW_zero (hr : Wt m r) (hf : Wt m f) : dot (combW r f c) c = 0 := by
  rw [combW_dot hr hf, Int.neg_mul, Int.mul_comm]
  omega
end
set_option genSizeOf false in
set_option genInjectivity false in
structure Canc (L : List (List Int)) (c : List Int) (most : Nat) (L' : List (List Int)) : Prop where
  zero : ∀ v ∈ L, dot v c = 0 → v ∈ L'
  join : ∀ r ∈ L, ∀ f ∈ L, 0 < dot r c → dot f c < 0 → usedL r f ≤ most → shortL (combW r f c) ∈ L'
  made : ∀ v ∈ L', (v ∈ L ∧ dot v c = 0) ∨ ∃ r ∈ L, ∃ f ∈ L, 0 < dot r c ∧ dot f c < 0 ∧ usedL r f ≤ most ∧ v = shortL (combW r f c)
  len : 4 * L'.length ≤ 4 * L.length + L.length * L.length
theorem Lv.next {m : Nat} {cols L L' : List (List Int)} {c : List Int} (h : Lv m cols L) (hc : c.length = m) (k : Canc L c (cols.length + 2) L') : Lv m (c :: cols) L' where
  col := fun d hd => by
    rcases List.mem_cons.mp hd with rfl | hd
    · exact hc
    · exact h.col d hd
  cn := fun v hv => by
    rcases k.made v hv with ⟨h1, h2⟩ | ⟨r, hr, f, hf, h1, h2, h3, rfl⟩
    · exact ⟨(h.cn v h1).wt, fun d hd => by
        rcases List.mem_cons.mp hd with rfl | hd
        · exact h2
        · exact (h.cn v h1).zero d hd⟩
    · have wr := (h.cn r hr).wt
      have wf := (h.cn f hf).wt
      refine ⟨short_wt (comb_wt wr wf h1 h2), fun d hd => short_zero ?_⟩
      rcases List.mem_cons.mp hd with rfl | hd
      · exact combW_zero wr wf
      · rw [combW_dot wr wf, (h.cn r hr).zero d hd, (h.cn f hf).zero d hd]
        simp
  nz := fun v hv => by
    rcases k.made v hv with ⟨h1, h2⟩ | ⟨r, hr, f, hf, h1, h2, h3, rfl⟩
    · exact h.nz v h1
    · obtain ⟨i, hi⟩ := h.nz r hr
      exact ⟨i, short_pos.mpr ((comb_pos (h.cn r hr).wt (h.cn f hf).wt h1 h2 i).mpr (.inl hi))⟩
  few := fun v hv => by
    rcases k.made v hv with ⟨h1, h2⟩ | ⟨r, hr, f, hf, h1, h2, h3, rfl⟩
    · have := h.few v h1
      simp only [List.length_cons]
      omega
    · have w := comb_wt (h.cn r hr).wt (h.cn f hf).wt h1 h2
      have e := cnt_of (short_wt w).len w.len fun i => short_pos
      rw [e, comb_cnt (h.cn r hr).wt (h.cn f hf).wt h1 h2]
      simp only [List.length_cons]
      omega
  cov := fun w hw nz => by
    have hcol : ∀ d ∈ c :: cols, d.length = m := fun d hd => by
      rcases List.mem_cons.mp hd with rfl | hd
      · exact hc
      · exact h.col d hd
    obtain ⟨u, hu, un, us, uc⟩ := fewG hcol _ w (Nat.le_refl _) hw nz
    simp only [List.length_cons] at uc
    have hu' : Cn m cols u := ⟨hu.wt, fun d hd => hu.zero d (List.mem_cons_of_mem _ hd)⟩
    have u0 : dot u c = 0 := hu.zero c List.mem_cons_self
    obtain ⟨v, hv, sv⟩ := h.cov u hu' un
    have pair : ∀ r ∈ L, ∀ f ∈ L, 0 < dot r c → dot f c < 0 → Sbs r u → Sbs f u → ∃ v ∈ L', Sbs v w := fun r hr f hf h1 h2 s1 s2 => by
      have wr := (h.cn r hr).wt
      have wf := (h.cn f hf).wt
      have sc : Sbs (combW r f c) u := fun i hi => by
        rcases (comb_pos wr wf h1 h2 i).mp hi with z | z
        · exact s1 i z
        · exact s2 i z
      have ww := comb_wt wr wf h1 h2
      have cc := Sbs.cnt_le ww.len hu.wt.len sc
      rw [comb_cnt wr wf h1 h2] at cc
      exact ⟨_, k.join r hr f hf h1 h2 (by first | assumption | exact Nat.le_of_lt ‹_› | omega), fun i hi => us i (sc i (short_pos.mp hi))⟩
    obtain ⟨a, b, x, ha, hb, hx, sx, cx, dx⟩ := reduce hu.wt (h.cn v hv).wt (h.nz v hv) sv
    have hx' : Cn m cols x := ⟨hx, fun d hd => by rw [dx d (h.col d hd), hu'.zero d hd, (h.cn v hv).zero d hd, Int.mul_zero, Int.mul_zero]; rfl⟩
    have d0 := dx c hc
    rw [u0, Int.mul_zero] at d0
    rcases Int.lt_trichotomy (dot v c) 0 with z | z | z
    · have := Int.mul_neg_of_pos_of_neg hb z
      obtain ⟨v', hv', s', d'⟩ := h.pos hc x hx' (by first | assumption | exact Nat.le_of_lt ‹_› | omega)
      exact pair v' hv' v hv d' z (s'.trans sx) sv
    · exact ⟨v, k.zero v hv z, sv.trans us⟩
    · have := Int.mul_pos hb z
      obtain ⟨v', hv', s', d'⟩ := h.neg hc _ x (Nat.le_refl _) hx' (by first | assumption | exact Nat.le_of_lt ‹_› | omega)
      exact pair v hv v' hv' z d' sv (s'.trans sx)
noncomputable def single (m j : Nat) : List Int := (List.range m).map fun i => if i = j then 1 else 0
noncomputable def singles (m : Nat) : List (List Int) := (List.range m).map (single m)
theorem single_nth {m i : Nat} (j : Nat) (h : i < m) : nth (single m j) i = if i = j then 1 else 0 := nth_range _ h
theorem single_len (m j : Nat) : (single m j).length = m := by simp [single]
theorem single_wt (m j : Nat) : Wt m (single m j) := ⟨single_len m j, fun x hx => by
  obtain ⟨i, hi, rfl⟩ := List.mem_map.mp hx
  split <;> decide⟩
theorem single_dot {m j : Nat} (hj : j < m) {c : List Int} (hc : c.length = m) : dot (single m j) c = nth c j := by
  rw [dot_F _ _ (by rw [single_len, hc]), single_len]
  rw [sumF_congr (g := fun i => if i = j then nth c j else 0) _ fun i hi => ?_, sumF_at (fun _ => 0) j (nth c j) m, if_pos hj, sumF_zero]
  · omega
  · rw [single_nth j hi]
    by_cases e : i = j
    · subst e; simp
    · simp [e]
theorem cntF_none {S : Nat → Bool} : ∀ n : Nat, (∀ i, i < n → S i = false) → cntF S n = 0
  | 0, _ => rfl
  | n + 1, h => by
    show cntF S n + (if S n = true then 1 else 0) = 0
    rw [cntF_none n fun i hi => h i (by first | assumption | exact Nat.le_of_lt ‹_› | omega), h n (by first | assumption | exact Nat.le_of_lt ‹_› | omega)]
    rfl
theorem lv0 (m : Nat) : Lv m [] (singles m) where
  col := fun c hc => by simp at hc
  cn := fun v hv => by
    obtain ⟨j, hj, rfl⟩ := List.mem_map.mp hv
    exact ⟨single_wt m j, fun c hc => by simp at hc⟩
  nz := fun v hv => by
    obtain ⟨j, hj, rfl⟩ := List.mem_map.mp hv
    exact ⟨j, by rw [single_nth j (List.mem_range.mp hj)]; simp⟩
  few := fun v hv => by
    obtain ⟨j, hj, rfl⟩ := List.mem_map.mp hv
    have hj := List.mem_range.mp hj
    unfold cnt
    rw [cnt_F, single_len]
    have off := cntF_off (S := fun i => decide (0 < nth (single m j) i)) (j := j) (decide_eq_true (by rw [single_nth j hj]; simp)) m
    rw [if_pos hj, cntF_none m fun i hi => ?_] at off
    · simp only [List.length_nil]; omega
    · by_cases e : i = j
      · simp [e]
      · simp only [if_neg e]
        exact decide_eq_false (by rw [single_nth j hi, if_neg e]; decide)
  cov := fun w hw nz => by
    obtain ⟨i, hi⟩ := nz
    have him : i < m := by rw [← hw.wt.len]; exact nth_lt hi
    refine ⟨single m i, List.mem_map.mpr ⟨i, List.mem_range.mpr him, rfl⟩, fun k hk => ?_⟩
    have hkm : k < m := by have := nth_lt hk; rw [single_len] at this; exact this
    rw [single_nth i hkm] at hk
    by_cases e : k = i
    · rw [e]; exact hi
    · rw [if_neg e] at hk; omega
theorem sumF_le {f g : Nat → Int} : ∀ n : Nat, (∀ i, i < n → f i ≤ g i) → sumF f n ≤ sumF g n
  | 0, _ => Int.le_refl _
  | n + 1, h => by
    have a := sumF_le n fun i hi => h i (by first | assumption | exact Nat.le_of_lt ‹_› | omega)
    have b := h n (by first | assumption | exact Nat.le_of_lt ‹_› | omega)
    show sumF f n + f n ≤ sumF g n + g n
    omega
noncomputable def CapC (ms c : List Int) : Prop := ∀ i, -nth ms i ≤ nth c i ∧ nth c i ≤ nth ms i
theorem dot_cap {m : Nat} {v ms c : List Int} (hv : Wt m v) (hm : ms.length = m) (hc : c.length = m) (h : CapC ms c) : -dot v ms ≤ dot v c ∧ dot v c ≤ dot v ms := by
  rw [dot_F v ms (by rw [hv.len, hm]), dot_F v c (by rw [hv.len, hc])]
  constructor
  · have e : -sumF (fun i => nth v i * nth ms i) v.length = sumF (fun i => -1 * (nth v i * nth ms i) + 0 * 0) v.length := by
      rw [sumF_lin]
      omega
    rw [e]
    exact sumF_le _ fun i _ => by
      have := Int.mul_le_mul_of_nonneg_left (h i).1 (nth_neg hv.nn i)
      rw [Int.mul_neg] at this
      omega
  · exact sumF_le _ fun i _ => Int.mul_le_mul_of_nonneg_left (h i).2 (nth_neg hv.nn i)
theorem CapC.nn {ms c : List Int} (h : CapC ms c) (i : Nat) : 0 ≤ nth ms i := by have := h i; omega
theorem dot_nn {m : Nat} {v ms : List Int} (hv : Wt m v) (hm : ms.length = m) (h : ∀ i, 0 ≤ nth ms i) : 0 ≤ dot v ms := by
  rw [dot_F v ms (by rw [hv.len, hm])]
  have := sumF_le (f := fun _ => 0) (g := fun i => nth v i * nth ms i) v.length fun i _ => Int.mul_nonneg (nth_neg hv.nn i) (h i)
  rwa [sumF_zero] at this
theorem short_le {m : Nat} {a ms : List Int} (ha : Wt m a) (hm : ms.length = m) (h : ∀ i, 0 ≤ nth ms i) : dot (shortL a) ms ≤ dot a ms := by
  have e := short_dot a ms
  have n := dot_nn (short_wt ha) hm h
  have p := divL_pos a
  have := Int.mul_le_mul_of_nonneg_right (show 1 ≤ divL a by omega) n
  omega
theorem comb_le {m : Nat} {r f c ms : List Int} (hr : Wt m r) (hf : Wt m f) (hm : ms.length = m) (hc : c.length = m) (h : CapC ms c) (h1 : 0 < dot r c) (h2 : dot f c < 0) : dot (combW r f c) ms ≤ 2 * (dot r ms * dot f ms) := by
  rw [combW_dot hr hf]
  have a := (dot_cap hr hm hc h).2
  have b := (dot_cap hf hm hc h).1
  have x := Int.mul_le_mul_of_nonneg_right (show -dot f c ≤ dot f ms by omega) (dot_nn hr hm h.nn)
  have y := Int.mul_le_mul_of_nonneg_right a (dot_nn hf hm h.nn)
  rw [Int.mul_comm (dot f ms)] at x
  omega
noncomputable def SzL (ms : List Int) (n : Nat) (L : List (List Int)) : Prop := ∀ v ∈ L, dot v ms < 2 ^ n
theorem pow_le {a b : Nat} (h : a ≤ b) : (2 : Int) ^ a ≤ 2 ^ b := by
  have := Nat.pow_le_pow_right (show 0 < 2 by decide) h
  exact_mod_cast this
theorem Sz_next {m n most : Nat} {L L' : List (List Int)} {c ms : List Int} (k : Canc L c most L') (hw : ∀ v ∈ L, Wt m v) (hm : ms.length = m) (hc : c.length = m) (h : CapC ms c) (z : SzL ms n L) : SzL ms (2 * n + 1) L' := fun v hv => by
  rcases k.made v hv with ⟨h1, h2⟩ | ⟨r, hr, f, hf, h1, h2, h3, rfl⟩
  · exact Int.lt_of_lt_of_le (z v h1) (pow_le (by first | assumption | exact Nat.le_of_lt ‹_› | omega))
  · have wr := hw r hr
    have wf := hw f hf
    have a := short_le (comb_wt wr wf h1 h2) hm h.nn
    have b := comb_le wr wf hm hc h h1 h2
    have zr := z r hr
    have zf := z f hf
    have nr := dot_nn wr hm h.nn
    have nf := dot_nn wf hm h.nn
    have p : dot r ms * dot f ms < 2 ^ n * 2 ^ n := by
      have p0 : (0 : Int) < 2 ^ n := Int.pow_pos (by decide)
      have x := Int.mul_le_mul_of_nonneg_right (Int.le_of_lt zr) nf
      have y := Int.mul_lt_mul_of_pos_left zf p0
      omega
    rw [show 2 * n + 1 = n + n + 1 by omega, Int.pow_succ, Int.pow_add]
    omega
theorem Sz_first {m n most : Nat} {L' : List (List Int)} {c ms : List Int} (k : Canc (singles m) c most L') (hm : ms.length = m) (hc : c.length = m) (h : CapC ms c) (h1 : ∀ i j, i < m → j < m → i ≠ j → nth ms i * nth ms j < 2 ^ n) (h0 : ∀ i, i < m → nth ms i < 2 ^ n) : SzL ms (n + 1) L' := fun v hv => by
  rcases k.made v hv with ⟨a1, a2⟩ | ⟨r, hr, f, hf, a1, a2, a3, rfl⟩
  · obtain ⟨j, hj, rfl⟩ := List.mem_map.mp a1
    rw [single_dot (List.mem_range.mp hj) hm]
    exact Int.lt_of_lt_of_le (h0 j (List.mem_range.mp hj)) (pow_le (by first | assumption | exact Nat.le_of_lt ‹_› | omega))
  · obtain ⟨i, hi, rfl⟩ := List.mem_map.mp hr
    obtain ⟨j, hj, rfl⟩ := List.mem_map.mp hf
    have hi := List.mem_range.mp hi
    have hj := List.mem_range.mp hj
    have a := short_le (comb_wt (single_wt m i) (single_wt m j) a1 a2) hm h.nn
    have b := comb_le (single_wt m i) (single_wt m j) hm hc h a1 a2
    rw [single_dot hi hm, single_dot hj hm] at b
    have ne : i ≠ j := fun e => by subst e; omega
    have := h1 i j hi hj ne
    rw [Int.pow_succ]
    omega
theorem Sz_zero {m n : Nat} {ms : List Int} (hm : ms.length = m) (h0 : ∀ i, i < m → nth ms i < 2 ^ n) : SzL ms n (singles m) := fun v hv => by
  obtain ⟨j, hj, rfl⟩ := List.mem_map.mp hv
  rw [single_dot (List.mem_range.mp hj) hm]
  exact h0 j (List.mem_range.mp hj)
theorem wt_le {m : Nat} {v ms : List Int} (hv : Wt m v) (hm : ms.length = m) (h : ∀ i, i < m → 1 ≤ nth ms i) {i : Nat} (hi : i < m) : nth v i * nth ms i ≤ dot v ms := by
  have h' : ∀ i, 0 ≤ nth ms i := fun i => by
    rcases Nat.lt_or_ge i m with z | z
    · have := h i z; omega
    · rw [nth_out (by first | assumption | exact Nat.le_of_lt ‹_› | omega)]; exact Int.le_refl _
  rw [dot_F v ms (by rw [hv.len, hm]), hv.len]
  have e := sumF_at (fun _ => 0) i (nth v i * nth ms i) m
  rw [if_pos hi, sumF_zero] at e
  have := sumF_le (f := fun k => if k = i then nth v i * nth ms i else 0) (g := fun k => nth v k * nth ms k) m fun k _ => by
    by_cases e : k = i
    · subst e; simp
    · simp only [if_neg e]
      exact Int.mul_nonneg (nth_neg hv.nn k) (h' k)
  omega
theorem wt_sm {m n : Nat} {v ms : List Int} (hv : Wt m v) (hm : ms.length = m) (h : ∀ i, i < m → 1 ≤ nth ms i) (z : dot v ms < 2 ^ n) : ∀ x ∈ v, Sm n x := fun x hx => by
  obtain ⟨i, hi, rfl⟩ := List.mem_iff_getElem.mp hx
  have e : v[i] = nth v i := by simp [nth, hi]
  have him : i < m := by rw [← hv.len]; exact hi
  have a := wt_le hv hm h him
  have b := nth_neg hv.nn i
  have c := Int.mul_le_mul_of_nonneg_left (h i him) b
  rw [e]
  unfold Sm
  have : (nth v i) < 2 ^ n := by omega
  have q : ((nth v i).natAbs : Int) < ((2 ^ n : Nat) : Int) := by
    rw [Int.natAbs_of_nonneg b]
    push_cast
    exact this
  exact_mod_cast q
theorem cap_sm {m n : Nat} {v ms c : List Int} (hv : Wt m v) (hm : ms.length = m) (hc : c.length = m) (h : CapC ms c) (z : dot v ms < 2 ^ n) : Sm n (dot v c) := by
  have a := dot_cap hv hm hc h
  unfold Sm
  have q : ((dot v c).natAbs : Int) < ((2 ^ n : Nat) : Int) := by
    push_cast
    omega
  exact_mod_cast q
noncomputable def colY (ys : List (List Int × Int)) (j : Nat) : List Int := ys.map fun y => nth y.1 j
noncomputable def colsF (ys : List (List Int × Int)) (w : Nat) : Nat → List (List Int)
  | 0 => []
  | k + 1 => colY ys (w - 1 - k) :: colsF ys w k
theorem colsF_len (ys : List (List Int × Int)) (w : Nat) : ∀ k, (colsF ys w k).length = k
  | 0 => rfl
  | k + 1 => by simp [colsF, colsF_len ys w k]
theorem colsF_mem {ys : List (List Int × Int)} {w : Nat} : ∀ {k : Nat}, k ≤ w → ∀ {j : Nat}, w - k ≤ j → j < w → colY ys j ∈ colsF ys w k
  | 0, _, j, h1, h2 => absurd h1 (by first | assumption | exact Nat.le_of_lt ‹_› | omega)
  | k + 1, hk, j, h1, h2 => by
    by_cases e : j = w - 1 - k
    · rw [e]; exact List.mem_cons_self
    · exact List.mem_cons_of_mem _ (colsF_mem (by first | assumption | exact Nat.le_of_lt ‹_› | omega) (by first | assumption | exact Nat.le_of_lt ‹_› | omega) h2)
theorem colsF_is {ys : List (List Int × Int)} {w : Nat} : ∀ {k : Nat}, k ≤ w → ∀ {c : List Int}, c ∈ colsF ys w k → ∃ j, w - k ≤ j ∧ j < w ∧ c = colY ys j
  | k + 1, hk, c, h => by
    rcases List.mem_cons.mp h with rfl | h
    · exact ⟨w - 1 - k, by omega, by omega, rfl⟩
    · obtain ⟨j, h1, h2, h3⟩ := colsF_is (by first | assumption | exact Nat.le_of_lt ‹_› | omega) h
      exact ⟨j, by omega, h2, h3⟩
theorem wRow_cn {ys : List (List Int × Int)} {w : Nat} {v : List Int} (h : ∀ c ∈ colsF ys w w, dot v c = 0) : wRow ys v w = List.replicate w 0 := by
  apply List.ext_getElem
  · simp [wRow]
  · intro k h1 h2
    have hk : k < w := by simpa [wRow] using h1
    simp [wRow]
    exact h _ (colsF_mem (Nat.le_refl _) (by first | assumption | exact Nat.le_of_lt ‹_› | omega) hk)
theorem cn_wRow {ys : List (List Int × Int)} {w : Nat} {v : List Int} (h : wRow ys v w = List.replicate w 0) : ∀ c ∈ colsF ys w w, dot v c = 0 := fun c hc => by
  obtain ⟨j, _, h2, rfl⟩ := colsF_is (Nat.le_refl _) hc
  have h1 : (wRow ys v w)[j]'(by rw [wRow_len]; exact h2) = 0 := by simp [h]
  unfold colY
  simpa [wRow] using h1
theorem lv_clash {ys : List (List Int × Int)} {w : Nat} {L : List (List Int)} (h : Lv ys.length (colsF ys w w) L) {v : List Int} (hv : v ∈ L) (hl : wLim ys v < 0) : isClash ys w v = true := by
  unfold isClash
  simp only [Bool.and_eq_true, decide_eq_true_eq, List.all_eq_true]
  have f := h.few v hv
  rw [colsF_len] at f
  exact ⟨⟨⟨⟨(h.cn v hv).wt.len, (h.cn v hv).wt.nn⟩, f⟩, wRow_cn (h.cn v hv).zero⟩, hl⟩
theorem lv_lim {ys : List (List Int × Int)} {w : Nat} {L : List (List Int)} (h : Lv ys.length (colsF ys w w) L) (hL : ∀ v ∈ L, 0 ≤ wLim ys v) {ws : List Int} (hl : ws.length = ys.length) (h0 : ∀ i ∈ ws, 0 ≤ i) (hr : wRow ys ws w = List.replicate w 0) : 0 ≤ wLim ys ws := by
  rcases Int.lt_or_le (wLim ys ws) 0 with z | z
  · obtain ⟨v, hv, _, d⟩ := h.neg (c := ys.map fun y => y.2) (by simp) _ ws (Nat.le_refl _) ⟨⟨hl, h0⟩, cn_wRow hr⟩ (show dot ws (ys.map fun y => y.2) < 0 from z)
    have := hL v hv
    have e : wLim ys v = dot v (ys.map fun y => y.2) := rfl
    omega
  · exact z
theorem lv_point {ys : List (List Int × Int)} {w : Nat} {L : List (List Int)} (hy : ∀ y ∈ ys, y.1.length = w) (h : Lv ys.length (colsF ys w w) L) (hL : ∀ v ∈ L, 0 ≤ wLim ys v) : ∃ p, Pt w p ∧ InY ys p := by
  rcases point_or_clash hy with z | ⟨ws, hc⟩
  · exact z
  · obtain ⟨h1, h2, _, h4, h5⟩ := clash_parts hc
    have := lv_lim h hL h1 h2 h4
    omega
theorem last_app (a : List Int) (x : Int) : (a ++ [x]).getLastD 0 = x := by simp
theorem dot_app : ∀ (a b : List Int) (x y : Int), a.length = b.length → dot (a ++ [x]) (b ++ [y]) = dot a b + x * y
  | [], [], x, y, _ => by simp [dot]
  | a :: as, b :: bs, x, y, h => by
    show a * b + dot (as ++ [x]) (bs ++ [y]) = a * b + dot as bs + x * y
    rw [dot_app as bs x y (by simpa using h)]
    omega
noncomputable def ptOf (p : List Int × Int) (t : Int × Int) : List Int × Int := ((p.1.map fun i => i * t.2) ++ [t.1], p.2 * t.2)
theorem ptOf_keep {k : Nat} {p y : List Int × Int} {t : Int × Int} (hp : p.1.length = k) (hy : y.1.length = k + 1) : dot y.1 (ptOf p t).1 ≤ y.2 * (ptOf p t).2 ↔ lastB y * t.1 ≤ restB p y * t.2 := by
  have e := split_last (a := y.1) (by intro z; rw [z] at hy; simp at hy)
  have e1 : dot y.1 (ptOf p t).1 = dot y.1.dropLast p.1 * t.2 + lastB y * t.1 := by
    unfold ptOf lastB
    rw [show dot y.1 ((p.1.map fun i => i * t.2) ++ [t.1]) = dot (y.1.dropLast ++ [y.1.getLastD 0]) ((p.1.map fun i => i * t.2) ++ [t.1]) by rw [← e]]
    rw [dot_app _ _ _ _ (by simp [hp, hy]), dot_scaleR]
  rw [e1]
  unfold restB ptOf
  rw [Int.sub_mul]
  show _ ≤ y.2 * (p.2 * t.2) ↔ _
  rw [← Int.mul_assoc]
  omega
theorem betweenM (L U : List (Int × Int)) (hL : ∀ l ∈ L, 0 < l.2) (hU : ∀ u ∈ U, 0 < u.2) (h : ∀ l ∈ L, ∀ u ∈ U, l.1 * u.2 ≤ u.1 * l.2) : ∃ t : Int × Int, (t = (0, 1) ∨ t ∈ L ∨ t ∈ U) ∧ 0 < t.2 ∧ (∀ l ∈ L, l.1 * t.2 ≤ t.1 * l.2) ∧ (∀ u ∈ U, t.1 * u.2 ≤ u.1 * t.2) := by
  by_cases hl : L = []
  · by_cases hu : U = []
    · subst hl hu
      exact ⟨(0, 1), .inl rfl, by decide, fun l hl => by simp at hl, fun l hl => by simp at hl⟩
    · obtain ⟨m, hm, q⟩ := fr_min U hu hU
      subst hl
      exact ⟨m, .inr (.inr hm), hU m hm, fun l hl => by simp at hl, q⟩
  · obtain ⟨m, hm, q⟩ := fr_max L hl hL
    exact ⟨m, .inr (.inl hm), hL m hm, q, fun u hu => h m hm u hu⟩
noncomputable def Fits (p : List Int × Int) (zs : List (List Int × Int)) (t : Int × Int) : Prop := 0 < t.2 ∧ ∀ y ∈ zs, lastB y * t.1 ≤ restB p y * t.2
theorem mem_highs {p : List Int × Int} {zs : List (List Int × Int)} {t : Int × Int} : t ∈ highs p zs ↔ ∃ y ∈ zs, 0 < lastB y ∧ t = (restB p y, lastB y) := by
  unfold highs
  rw [List.mem_filterMap]
  constructor
  · rintro ⟨y, hy, e⟩
    split at e
    · rename_i h; exact ⟨y, hy, h, (Option.some.inj e).symm⟩
    · cases e
  · rintro ⟨y, hy, h, rfl⟩
    exact ⟨y, hy, if_pos h⟩
theorem mem_lows {p : List Int × Int} {zs : List (List Int × Int)} {t : Int × Int} : t ∈ lows p zs ↔ ∃ y ∈ zs, lastB y < 0 ∧ t = (-restB p y, -lastB y) := by
  unfold lows
  rw [List.mem_filterMap]
  constructor
  · rintro ⟨y, hy, e⟩
    split at e
    · rename_i h; exact ⟨y, hy, h, (Option.some.inj e).symm⟩
    · cases e
  · rintro ⟨y, hy, h, rfl⟩
    exact ⟨y, hy, if_pos h⟩
theorem left_iff {p : List Int × Int} {zs : List (List Int × Int)} : leftB p zs = true ↔ (∀ y ∈ zs, lastB y = 0 → 0 ≤ restB p y) ∧ ∀ y ∈ zs, ∀ z ∈ zs, lastB y < 0 → 0 < lastB z → -restB p y * lastB z ≤ restB p z * -lastB y := by
  unfold leftB
  rw [Bool.and_eq_true, List.all_eq_true, List.all_eq_true]
  constructor
  · rintro ⟨h1, h2⟩
    refine ⟨fun y hy e => ?_, fun y hy z hz e1 e2 => ?_⟩
    · have := h1 y hy
      unfold okL at this
      rw [decide_eq_true e] at this
      simp at this
      exact this
    · have := h2 _ (mem_lows.mpr ⟨y, hy, e1, rfl⟩)
      rw [List.all_eq_true] at this
      exact of_decide_eq_true (this _ (mem_highs.mpr ⟨z, hz, e2, rfl⟩))
  · rintro ⟨h1, h2⟩
    refine ⟨fun y hy => ?_, fun l hl => ?_⟩
    · unfold okL
      by_cases e : lastB y = 0
      · have := h1 y hy e
        rw [decide_eq_true e, decide_eq_false (by first | assumption | exact Nat.le_of_lt ‹_› | omega)]
        rfl
      · rw [decide_eq_false e]; rfl
    · rw [List.all_eq_true]
      intro h hh
      obtain ⟨y, hy, e1, rfl⟩ := mem_lows.mp hl
      obtain ⟨z, hz, e2, rfl⟩ := mem_highs.mp hh
      exact decide_eq_true (h2 y hy z hz e1 e2)
theorem fits_left {p : List Int × Int} {zs : List (List Int × Int)} {t : Int × Int} (h : Fits p zs t) : leftB p zs = true := by
  rw [left_iff]
  have pos := h.1
  refine ⟨fun y hy e => ?_, fun y hy z hz e1 e2 => ?_⟩
  · have := h.2 y hy
    rw [e, Int.zero_mul] at this
    rcases Int.lt_or_le (restB p y) 0 with q | q
    · have := Int.mul_neg_of_neg_of_pos q pos
      omega
    · exact q
  · have a := Int.mul_le_mul_of_nonneg_right (h.2 y hy) (Int.le_of_lt e2)
    have b := Int.mul_le_mul_of_nonneg_right (h.2 z hz) (show 0 ≤ -lastB y by omega)
    refine Int.le_of_mul_le_mul_right ?_ pos
    have e1 : -restB p y * lastB z * t.2 = -(restB p y * t.2 * lastB z) := by
      rw [Int.neg_mul, Int.neg_mul, Int.mul_assoc, Int.mul_assoc, Int.mul_comm (lastB z)]
    have e2 : restB p z * -lastB y * t.2 = restB p z * t.2 * -lastB y := by
      simp only [Int.mul_assoc, Int.mul_comm, Int.mul_left_comm]
    have e3 : lastB y * t.1 * lastB z = -(lastB z * t.1 * -lastB y) := by
      rw [Int.mul_neg, Int.neg_neg]
      simp only [Int.mul_assoc, Int.mul_comm, Int.mul_left_comm]
    rw [e1, e2]
    omega
theorem left_fits {p : List Int × Int} {zs : List (List Int × Int)} (h : leftB p zs = true) : ∃ t, (t = (0, 1) ∨ ∃ y ∈ zs, lastB y ≠ 0 ∧ t = (if 0 < lastB y then restB p y else -restB p y, if lastB y < 0 then -lastB y else lastB y)) ∧ Fits p zs t := by
  rw [left_iff] at h
  obtain ⟨t, ht, pos, tl, tu⟩ := betweenM (lows p zs) (highs p zs) (fun l hl => by obtain ⟨y, hy, e1, rfl⟩ := mem_lows.mp hl; show 0 < -lastB y; omega) (fun l hl => by obtain ⟨y, hy, e1, rfl⟩ := mem_highs.mp hl; exact e1) (fun l hl u hu => by
    obtain ⟨y, hy, e1, rfl⟩ := mem_lows.mp hl
    obtain ⟨z, hz, e2, rfl⟩ := mem_highs.mp hu
    exact h.2 y hy z hz e1 e2)
  refine ⟨t, ?_, pos, fun y hy => ?_⟩
  · rcases ht with z | z | z
    · exact .inl z
    · obtain ⟨y, hy, e1, rfl⟩ := mem_lows.mp z
      exact .inr ⟨y, hy, by omega, by rw [if_neg (by first | assumption | exact Nat.le_of_lt ‹_› | omega), if_pos e1]⟩
    · obtain ⟨y, hy, e1, rfl⟩ := mem_highs.mp z
      exact .inr ⟨y, hy, by omega, by rw [if_pos e1, if_neg (by first | assumption | exact Nat.le_of_lt ‹_› | omega)]⟩
  · rcases Int.lt_trichotomy (lastB y) 0 with e | e | e
    · have : -restB p y * t.2 ≤ t.1 * -lastB y := tl _ (mem_lows.mpr ⟨y, hy, e, rfl⟩)
      rw [Int.neg_mul, Int.mul_neg, Int.mul_comm t.1] at this
      omega
    · rw [e, Int.zero_mul]
      exact Int.mul_nonneg (h.1 y hy e) (Int.le_of_lt pos)
    · have : t.1 * lastB y ≤ restB p y * t.2 := tu _ (mem_highs.mpr ⟨y, hy, e, rfl⟩)
      rw [Int.mul_comm]
      exact this
noncomputable def edgeT (p z : List Int × Int) : Int × Int := (if 0 < lastB z then restB p z else -restB p z, if lastB z < 0 then -lastB z else lastB z)
noncomputable def edgeRow (p z : List Int × Int) : List Int := (ptOf p (edgeT p z)).1 ++ [(ptOf p (edgeT p z)).2]
noncomputable def edgeP (p z : List Int × Int) : List Int × Int := ((shortL (edgeRow p z)).dropLast, (shortL (edgeRow p z)).getLastD 0)
noncomputable def cands (p : List Int × Int) (zs : List (List Int × Int)) : List (List Int × Int) := (p.1 ++ [0], p.2) :: (zs.filter fun z => decide (lastB z ≠ 0)).map (edgeP p)
theorem lastD_map {f : Int → Int} (hf : f 0 = 0) (l : List Int) : (l.map f).getLastD 0 = f (l.getLastD 0) := by
  rcases List.eq_nil_or_concat l with rfl | ⟨r, x, rfl⟩
  · simp [hf]
  · simp
theorem edge_scale (p z : List Int × Int) : ptOf p (edgeT p z) = scaleP (divL (edgeRow p z)) (edgeP p z) := by
  have e := short_mul (edgeRow p z)
  have a1 : (ptOf p (edgeT p z)).1 = (edgeRow p z).dropLast := by simp [edgeRow]
  have a2 : (ptOf p (edgeT p z)).2 = (edgeRow p z).getLastD 0 := by simp [edgeRow]
  apply Prod.ext
  · rw [a1]
    show _ = (shortL (edgeRow p z)).dropLast.map fun i => i * divL (edgeRow p z)
    rw [show (edgeRow p z).dropLast = ((shortL (edgeRow p z)).map fun i => divL (edgeRow p z) * i).dropLast by rw [e], ← List.map_dropLast]
    exact List.map_congr_left fun i _ => Int.mul_comm _ _
  · rw [a2]
    show _ = (shortL (edgeRow p z)).getLastD 0 * divL (edgeRow p z)
    rw [show (edgeRow p z).getLastD 0 = ((shortL (edgeRow p z)).map fun i => divL (edgeRow p z) * i).getLastD 0 by rw [e], lastD_map (by simp)]
    exact Int.mul_comm _ _
theorem edgeT_pos {p z : List Int × Int} (h : lastB z ≠ 0) : 0 < (edgeT p z).2 := by
  unfold edgeT
  show 0 < if lastB z < 0 then -lastB z else lastB z
  split <;> omega
theorem nth_app {a : List Int} {x : Int} {k : Nat} (h : k < a.length) : nth (a ++ [x]) k = nth a k := by
  simp [nth, List.getElem?_append_left h]
set_option genSizeOf false in
set_option genInjectivity false in
structure Above (k : Nat) (p q : List Int × Int) : Prop where
  pt : Pt (k + 1) q
  is : ∀ i, i < k → nth q.1 i * p.2 = nth p.1 i * q.2
theorem ptOf_above {k : Nat} {p : List Int × Int} {t : Int × Int} (hp : Pt k p) (ht : 0 < t.2) : Above k p (ptOf p t) := by
  refine ⟨⟨by simp [ptOf, hp.len], ?_⟩, fun i hi => ?_⟩
  · have := Int.mul_pos (show 0 < p.2 by have := hp.div; omega) ht
    show 1 ≤ p.2 * t.2
    omega
  · show nth ((p.1.map fun i => i * t.2) ++ [t.1]) i * p.2 = nth p.1 i * (p.2 * t.2)
    rw [nth_app (by simp [hp.len, hi]), nth_map (by simp)]
    rw [Int.mul_assoc, Int.mul_comm t.2]
theorem scale_above {k : Nat} {p q : List Int × Int} {g : Int} (hg : 0 < g) (h : Above k p (scaleP g q)) : Above k p q := by
  have h2 : 1 ≤ q.2 * g := h.pt.div
  refine ⟨⟨by have := h.pt.len; simpa [scaleP] using this, ?_⟩, fun i hi => ?_⟩
  · rcases Int.lt_or_le 0 q.2 with z | z
    · omega
    · have := Int.mul_nonneg (show 0 ≤ -q.2 by omega) (Int.le_of_lt hg)
      rw [Int.neg_mul] at this
      omega
  · have := h.is i hi
    have e : nth (scaleP g q).1 i = nth q.1 i * g := nth_map (by simp) _ _
    rw [e] at this
    have this : nth q.1 i * g * p.2 = nth p.1 i * (q.2 * g) := this
    refine Int.eq_of_mul_eq_mul_right (show g ≠ 0 by omega) ?_
    rw [Int.mul_assoc, Int.mul_comm p.2, ← Int.mul_assoc, this, Int.mul_assoc]
theorem scale_inY {ys : List (List Int × Int)} {q : List Int × Int} {g : Int} (hg : 0 < g) : InY ys (scaleP g q) ↔ InY ys q := by
  rw [← inY_all, ← inY_all]
  simp only [keep_scale hg]
theorem zero_is (p : List Int × Int) : ptOf p (0, 1) = (p.1 ++ [0], p.2) := by simp [ptOf]
theorem cand_above {k : Nat} {p q : List Int × Int} {zs : List (List Int × Int)} (hp : Pt k p) (h : q ∈ cands p zs) : Above k p q := by
  rcases List.mem_cons.mp h with rfl | h
  · rw [← zero_is]
    exact ptOf_above hp (by decide)
  · obtain ⟨z, hz, rfl⟩ := List.mem_map.mp h
    have hz := of_decide_eq_true (List.mem_filter.mp hz).2
    refine scale_above (divL_pos (edgeRow p z)) ?_
    rw [← edge_scale]
    exact ptOf_above hp (edgeT_pos hz)
theorem fits_in {k : Nat} {p : List Int × Int} {zs : List (List Int × Int)} {t : Int × Int} (hp : p.1.length = k) (hz : ∀ z ∈ zs, z.1.length = k + 1) (h : Fits p zs t) : InY zs (ptOf p t) := fun y hy => (ptOf_keep hp (hz y hy)).mpr (h.2 y hy)
theorem left_cand {k : Nat} {p : List Int × Int} {zs : List (List Int × Int)} (hp : p.1.length = k) (hz : ∀ z ∈ zs, z.1.length = k + 1) (h : leftB p zs = true) : ∃ q ∈ cands p zs, InY zs q := by
  obtain ⟨t, ht, f⟩ := left_fits h
  rcases ht with rfl | ⟨y, hy, e, rfl⟩
  · exact ⟨_, List.mem_cons_self, by rw [← zero_is]; exact fits_in hp hz f⟩
  · refine ⟨edgeP p y, List.mem_cons_of_mem _ (List.mem_map.mpr ⟨y, List.mem_filter.mpr ⟨hy, decide_eq_true e⟩, rfl⟩), ?_⟩
    rw [← scale_inY (divL_pos (edgeRow p y)), ← edge_scale]
    exact fits_in hp hz f
theorem above_left {k : Nat} {p q : List Int × Int} {zs : List (List Int × Int)} (hp : Pt k p) (hz : ∀ z ∈ zs, z.1.length = k + 1) (ha : Above k p q) (h : InY zs q) : leftB p zs = true := by
  have ql := ha.pt.len
  have e := split_last (a := q.1) (by intro z; rw [z] at ql; simp at ql)
  have qd := ha.pt.div
  have pd := hp.div
  refine fits_left (t := (q.1.getLastD 0 * p.2, q.2)) ⟨show 0 < q.2 by omega, fun y hy => ?_⟩
  have hyl := hz y hy
  have ey := split_last (a := y.1) (by intro z; rw [z] at hyl; simp at hyl)
  have k1 := h y hy
  have e1 : dot y.1 q.1 = dot y.1.dropLast q.1.dropLast + lastB y * q.1.getLastD 0 := by
    unfold lastB
    rw [show dot y.1 q.1 = dot (y.1.dropLast ++ [y.1.getLastD 0]) (q.1.dropLast ++ [q.1.getLastD 0]) by rw [← ey, ← e]]
    exact dot_app _ _ _ _ (by simp [hyl, ql])
  have e2 : dot y.1.dropLast q.1.dropLast * p.2 = dot y.1.dropLast p.1 * q.2 := by
    rw [← dot_scaleR, ← dot_scaleR]
    congr 1
    apply List.ext_getElem
    · simp [ql, hp.len]
    · intro i h1 h2
      have hi : i < k := by simpa [ql] using h1
      have := ha.is i hi
      have n1 : nth q.1 i = q.1.dropLast[i]'(by simp [ql]; exact hi) := by
        simp [nth, show i < q.1.length by omega]
      have n2 : nth p.1 i = p.1[i]'(by rw [hp.len]; exact hi) := by
        simp [nth, show i < p.1.length by rw [hp.len]; exact hi]
      rw [n1, n2] at this
      simpa using this
  rw [e1] at k1
  have k2 := Int.mul_le_mul_of_nonneg_right k1 (show 0 ≤ p.2 by omega)
  rw [Int.add_mul, e2] at k2
  show lastB y * (q.1.getLastD 0 * p.2) ≤ restB p y * q.2
  unfold restB
  rw [Int.sub_mul, ← Int.mul_assoc]
  rw [Int.mul_assoc y.2, Int.mul_comm q.2, ← Int.mul_assoc] at k2
  omega
noncomputable def raisedM (p : List Int × Int) (zs : List (List Int × Int)) : Option (List Int × Int) := (cands p zs).find? fun q => zs.all fun z => keepB z q
theorem raised_some {k : Nat} {p q : List Int × Int} {zs : List (List Int × Int)} (hp : Pt k p) (hz : ∀ z ∈ zs, z.1.length = k + 1) (h : raisedM p zs = some q) : q ∈ cands p zs ∧ Above k p q ∧ InY zs q ∧ leftB p zs = true := by
  have m := List.mem_of_find?_eq_some h
  have i : InY zs q := inY_all.mp (List.find?_some (p := fun q => zs.all fun z => keepB z q) h)
  have a := cand_above hp m
  exact ⟨m, a, i, above_left hp hz a i⟩
theorem raised_none {k : Nat} {p : List Int × Int} {zs : List (List Int × Int)} (hp : Pt k p) (hz : ∀ z ∈ zs, z.1.length = k + 1) (h : raisedM p zs = none) : leftB p zs = false := by
  cases e : leftB p zs with
  | false => rfl
  | true =>
    obtain ⟨q, hq, hi⟩ := left_cand hp.len hz e
    have := List.find?_eq_none.mp h q hq
    exact absurd (inY_all.mpr hi) this
noncomputable def zsF (ys : List (List Int × Int)) (L : List (List Int)) (k : Nat) : List (List Int × Int) := L.map fun v => (wRow ys v k, wLim ys v)
noncomputable def slack (ys : List (List Int × Int)) (p : List Int × Int) (k : Nat) : List Int := ys.map fun y => y.2 * p.2 - dot (y.1.take k) p.1
theorem wRow_succ (ys : List (List Int × Int)) (v : List Int) (k : Nat) : wRow ys v (k + 1) = wRow ys v k ++ [dot v (colY ys k)] := by
  simp [wRow, List.range_succ, colY]
theorem wRow_take {ys : List (List Int × Int)} {v : List Int} {k : Nat} : wRow (ys.map fun y => (y.1.take k, y.2)) v k = wRow ys v k := by
  unfold wRow
  refine List.map_congr_left fun j hj => ?_
  have hj := List.mem_range.mp hj
  rw [List.map_map]
  congr 1
  refine List.map_congr_left fun y _ => ?_
  show nth (y.1.take k) j = nth y.1 j
  simp [nth, List.getElem?_take, hj]
theorem dot_sub {α : Type} (f g : α → Int) : ∀ (v : List Int) (ys : List α), dot v (ys.map fun y => f y - g y) = dot v (ys.map f) - dot v (ys.map g)
  | [], ys => by cases ys <;> simp [dot]
  | a :: v, [] => by simp [dot]
  | a :: v, y :: ys => by
    have ih := dot_sub f g v ys
    show a * (f y - g y) + dot v (ys.map fun y => f y - g y) = (a * f y + dot v (ys.map f)) - (a * g y + dot v (ys.map g))
    rw [ih, Int.mul_sub]
    omega
theorem dot_slack {ys : List (List Int × Int)} {w k : Nat} (hy : ∀ y ∈ ys, y.1.length = w) (hk : k ≤ w) (p : List Int × Int) (v : List Int) : dot v (slack ys p k) = wLim ys v * p.2 - dot (wRow ys v k) p.1 := by
  unfold slack
  rw [dot_sub (fun y : List Int × Int => y.2 * p.2) (fun y => dot (y.1.take k) p.1), dot_lim, ← wRow_take, dot_comb (w := k) _ v fun y hm => ?_, List.map_map]
  · rfl
  · obtain ⟨z, hz, rfl⟩ := List.mem_map.mp hm
    have := hy z hz
    simp [this]
    omega
theorem raise_ok {ys : List (List Int × Int)} {w k : Nat} {L L' : List (List Int)} {p : List Int × Int} (hy : ∀ y ∈ ys, y.1.length = w) (hk : k < w) (hL : Lv ys.length (colsF ys w (w - k - 1)) L) (hL' : Lv ys.length (colsF ys w (w - k)) L') (hi : InY (zsF ys L' k) p) : leftB p (zsF ys L (k + 1)) = true := by
  have ec : colsF ys w (w - k) = colY ys k :: colsF ys w (w - k - 1) := by
    rw [show w - k = (w - k - 1) + 1 by omega]
    show colY ys (w - 1 - (w - k - 1)) :: _ = _
    rw [show w - 1 - (w - k - 1) = k by omega]
    rfl
  have B : ∀ u, Cn ys.length (colsF ys w (w - k)) u → 0 ≤ dot u (slack ys p k) := fun u hu => by
    rcases Int.lt_or_le (dot u (slack ys p k)) 0 with z | z
    · obtain ⟨v, hv, _, d⟩ := hL'.neg (c := slack ys p k) (by simp [slack]) _ u (Nat.le_refl _) hu z
      rw [dot_slack hy (by first | assumption | exact Nat.le_of_lt ‹_› | omega)] at d
      have := hi _ (List.mem_map.mpr ⟨v, hv, rfl⟩)
      have this : dot (wRow ys v k) p.1 ≤ wLim ys v * p.2 := this
      omega
    · exact z
  have lz : ∀ v, lastB (wRow ys v (k + 1), wLim ys v) = dot v (colY ys k) := fun v => by
    unfold lastB
    rw [wRow_succ, last_app]
  have rz : ∀ v, restB p (wRow ys v (k + 1), wLim ys v) = dot v (slack ys p k) := fun v => by
    rw [dot_slack hy (by first | assumption | exact Nat.le_of_lt ‹_› | omega)]
    unfold restB
    rw [wRow_succ, List.dropLast_concat]
  have cz : ∀ v, Cn ys.length (colsF ys w (w - k - 1)) v → dot v (colY ys k) = 0 → Cn ys.length (colsF ys w (w - k)) v := fun v hv h0 => ⟨hv.wt, fun c hc => by
    rw [ec] at hc
    rcases List.mem_cons.mp hc with rfl | hc
    · exact h0
    · exact hv.zero c hc⟩
  rw [left_iff]
  refine ⟨fun y hy' e => ?_, fun y hy' z hz e1 e2 => ?_⟩
  · obtain ⟨v, hv, rfl⟩ := List.mem_map.mp hy'
    rw [lz] at e
    rw [rz]
    exact B v (cz v (hL.cn v hv) e)
  · obtain ⟨v, hv, rfl⟩ := List.mem_map.mp hy'
    obtain ⟨u, hu, rfl⟩ := List.mem_map.mp hz
    rw [lz] at e1 e2
    rw [rz, rz, lz, lz]
    have wu := (hL.cn u hu).wt
    have wv := (hL.cn v hv).wt
    have q := B (combW u v (colY ys k)) (cz _ ⟨comb_wt wu wv e2 e1, fun c hc => by rw [combW_dot wu wv, (hL.cn u hu).zero c hc, (hL.cn v hv).zero c hc]; simp⟩ (combW_zero wu wv))
    rw [combW_dot wu wv] at q
    rw [Int.neg_mul, Int.mul_comm (dot u (slack ys p k)), Int.mul_comm (dot v (slack ys p k))]
    omega
theorem zsF_single {ys : List (List Int × Int)} {w : Nat} (hy : ∀ y ∈ ys, y.1.length = w) : zsF ys (singles ys.length) w = ys := by
  apply List.ext_getElem
  · simp [zsF, singles]
  · intro j h1 h2
    have e : (zsF ys (singles ys.length) w)[j] = (wRow ys (single ys.length j) w, wLim ys (single ys.length j)) := by simp [zsF, singles]
    rw [e]
    apply Prod.ext
    · apply List.ext_getElem
      · rw [wRow_len, hy _ (List.getElem_mem h2)]
      · intro k g1 g2
        simp only [wRow, List.getElem_map, List.getElem_range]
        rw [single_dot h2 (by simp)]
        simp [nth, h2, g2]
    · show wLim ys (single ys.length j) = _
      unfold wLim
      rw [single_dot h2 (by simp)]
      simp [nth, h2]
noncomputable def stepJ (c : List Int) (most : Nat) (acc : List (List Int)) (r f : List Int) : List (List Int) := if usedL r f ≤ most then (if shortL (combW r f c) ∈ acc then acc else acc ++ [shortL (combW r f c)]) else acc
noncomputable def innerJ (c : List Int) (most : Nat) (acc : List (List Int)) (r : List Int) (fs : List (List Int)) : List (List Int) := fs.foldl (fun a f => stepJ c most a r f) acc
noncomputable def zeroL (L : List (List Int)) (c : List Int) : List (List Int) := L.filter fun v => decide (dot v c = 0)
noncomputable def aboveL (L : List (List Int)) (c : List Int) : List (List Int) := L.filter fun v => decide (0 < dot v c)
noncomputable def belowL (L : List (List Int)) (c : List Int) : List (List Int) := L.filter fun v => decide (dot v c < 0)
noncomputable def outerJ (c : List Int) (most : Nat) (acc rs fs : List (List Int)) : List (List Int) := rs.foldl (fun a r => innerJ c most a r fs) acc
noncomputable def cancM (L : List (List Int)) (c : List Int) (most : Nat) : List (List Int) := outerJ c most (zeroL L c) (aboveL L c) (belowL L c)
set_option genSizeOf false in
set_option genInjectivity false in
structure Grow (acc res : List (List Int)) (n : Nat) (P : List Int → Prop) : Prop where
  old : ∀ v ∈ acc, v ∈ res
  new : ∀ v ∈ res, v ∈ acc ∨ P v
  len : res.length ≤ acc.length + n
theorem step_grow (c : List Int) (most : Nat) (acc : List (List Int)) (r f : List Int) : Grow acc (stepJ c most acc r f) 1 (fun v => usedL r f ≤ most ∧ v = shortL (combW r f c)) ∧ (usedL r f ≤ most → shortL (combW r f c) ∈ stepJ c most acc r f) := by
  unfold stepJ
  by_cases h : usedL r f ≤ most
  · rw [if_pos h]
    by_cases h2 : shortL (combW r f c) ∈ acc
    · rw [if_pos h2]
      exact ⟨⟨fun v hv => hv, fun v hv => .inl hv, by omega⟩, fun _ => h2⟩
    · rw [if_neg h2]
      refine ⟨⟨fun v hv => List.mem_append_left _ hv, fun v hv => ?_, by simp⟩, fun _ => by simp⟩
      rcases List.mem_append.mp hv with q | q
      · exact .inl q
      · exact .inr ⟨h, List.mem_singleton.mp q⟩
  · rw [if_neg h]
    exact ⟨⟨fun v hv => hv, fun v hv => .inl hv, by omega⟩, fun q => absurd q h⟩
theorem inner_grow (c : List Int) (most : Nat) (r : List Int) : ∀ (fs acc : List (List Int)), Grow acc (innerJ c most acc r fs) fs.length (fun v => ∃ f ∈ fs, usedL r f ≤ most ∧ v = shortL (combW r f c)) ∧ ∀ f ∈ fs, usedL r f ≤ most → shortL (combW r f c) ∈ innerJ c most acc r fs
  | [], acc => ⟨⟨fun v hv => hv, fun v hv => .inl hv, by simp [innerJ]⟩, fun f hf => by simp at hf⟩
  | f :: fs, acc => by
    obtain ⟨g1, j1⟩ := step_grow c most acc r f
    obtain ⟨g2, j2⟩ := inner_grow c most r fs (stepJ c most acc r f)
    have e : innerJ c most acc r (f :: fs) = innerJ c most (stepJ c most acc r f) r fs := rfl
    rw [e]
    refine ⟨⟨fun v hv => g2.old v (g1.old v hv), fun v hv => ?_, ?_⟩, fun f' hf' hu => ?_⟩
    · rcases g2.new v hv with q | ⟨f', hf', q⟩
      · rcases g1.new v q with q | q
        · exact .inl q
        · exact .inr ⟨f, List.mem_cons_self, q⟩
      · exact .inr ⟨f', List.mem_cons_of_mem _ hf', q⟩
    · have := g2.len
      have := g1.len
      simp only [List.length_cons]
      omega
    · rcases List.mem_cons.mp hf' with rfl | hf'
      · exact g2.old _ (j1 hu)
      · exact j2 f' hf' hu
theorem outer_grow (c : List Int) (most : Nat) (fs : List (List Int)) : ∀ (rs acc : List (List Int)), Grow acc (outerJ c most acc rs fs) (rs.length * fs.length) (fun v => ∃ r ∈ rs, ∃ f ∈ fs, usedL r f ≤ most ∧ v = shortL (combW r f c)) ∧ ∀ r ∈ rs, ∀ f ∈ fs, usedL r f ≤ most → shortL (combW r f c) ∈ outerJ c most acc rs fs
  | [], acc => ⟨⟨fun v hv => hv, fun v hv => .inl hv, by simp [outerJ]⟩, fun f hf => by simp at hf⟩
  | r :: rs, acc => by
    obtain ⟨g1, j1⟩ := inner_grow c most r fs acc
    obtain ⟨g2, j2⟩ := outer_grow c most fs rs (innerJ c most acc r fs)
    have e : outerJ c most acc (r :: rs) fs = outerJ c most (innerJ c most acc r fs) rs fs := rfl
    rw [e]
    refine ⟨⟨fun v hv => g2.old v (g1.old v hv), fun v hv => ?_, ?_⟩, fun r' hr' f' hf' hu => ?_⟩
    · rcases g2.new v hv with q | ⟨r', hr', q⟩
      · rcases g1.new v q with q | q
        · exact .inl q
        · exact .inr ⟨r, List.mem_cons_self, q⟩
      · exact .inr ⟨r', List.mem_cons_of_mem _ hr', q⟩
    · have := g2.len
      have := g1.len
      simp only [List.length_cons, Nat.add_mul]
      omega
    · rcases List.mem_cons.mp hr' with rfl | hr'
      · exact g2.old _ (j1 f' hf' hu)
      · exact j2 r' hr' f' hf' hu
theorem four_ab (a b : Nat) : 4 * (a * b) ≤ (a + b) * (a + b) := by
  rcases Nat.le_total a b with h | h
  · obtain ⟨d, rfl⟩ := Nat.exists_eq_add_of_le h
    simp only [Nat.mul_add, Nat.add_mul, Nat.mul_comm d a]
    omega
  · obtain ⟨d, rfl⟩ := Nat.exists_eq_add_of_le h
    simp only [Nat.mul_add, Nat.add_mul, Nat.mul_comm d b]
    omega
theorem three_len (L : List (List Int)) (c : List Int) : (zeroL L c).length + (aboveL L c).length + (belowL L c).length = L.length := by
  unfold zeroL aboveL belowL
  induction L with
  | nil => rfl
  | cons v L ih =>
    rcases Int.lt_trichotomy (dot v c) 0 with h | h | h
    · rw [List.filter_cons_of_neg (by simp; omega), List.filter_cons_of_neg (by simp; omega), List.filter_cons_of_pos (by simpa using h)]
      simp only [List.length_cons]
      omega
    · rw [List.filter_cons_of_pos (by simpa using h), List.filter_cons_of_neg (by simp; omega), List.filter_cons_of_neg (by simp; omega)]
      simp only [List.length_cons]
      omega
    · rw [List.filter_cons_of_neg (by simp; omega), List.filter_cons_of_pos (by simpa using h), List.filter_cons_of_neg (by simp; omega)]
      simp only [List.length_cons]
      omega
theorem canc_ok (L : List (List Int)) (c : List Int) (most : Nat) : Canc L c most (cancM L c most) := by
  obtain ⟨g, j⟩ := outer_grow c most (belowL L c) (aboveL L c) (zeroL L c)
  refine ⟨fun v hv h => g.old v (List.mem_filter.mpr ⟨hv, decide_eq_true h⟩), fun r hr f hf h1 h2 hu => j r (List.mem_filter.mpr ⟨hr, decide_eq_true h1⟩) f (List.mem_filter.mpr ⟨hf, decide_eq_true h2⟩) hu, fun v hv => ?_, ?_⟩
  · rcases g.new v hv with q | ⟨r, hr, f, hf, hu, e⟩
    · obtain ⟨h1, h2⟩ := List.mem_filter.mp q
      exact .inl ⟨h1, of_decide_eq_true h2⟩
    · obtain ⟨r1, r2⟩ := List.mem_filter.mp hr
      obtain ⟨f1, f2⟩ := List.mem_filter.mp hf
      exact .inr ⟨r, r1, f, f1, of_decide_eq_true r2, of_decide_eq_true f2, hu, e⟩
  · have l := g.len
    have t := three_len L c
    have q := four_ab (aboveL L c).length (belowL L c).length
    have m := Nat.mul_le_mul (show (aboveL L c).length + (belowL L c).length ≤ L.length by omega) (show (aboveL L c).length + (belowL L c).length ≤ L.length by omega)
    show 4 * (outerJ c most (zeroL L c) (aboveL L c) (belowL L c)).length ≤ _
    omega
noncomputable def lvM (ys : List (List Int × Int)) (w : Nat) : Nat → List (List Int)
  | 0 => singles ys.length
  | k + 1 => cancM (lvM ys w k) (colY ys (w - 1 - k)) (k + 2)
theorem lv_ok (ys : List (List Int × Int)) (w : Nat) : ∀ k, Lv ys.length (colsF ys w k) (lvM ys w k)
  | 0 => lv0 ys.length
  | k + 1 => by
    have h := lv_ok ys w k
    have q := canc_ok (lvM ys w k) (colY ys (w - 1 - k)) (k + 2)
    exact h.next (by simp [colY]) (by rw [colsF_len]; exact q)
theorem lv_count {ys : List (List Int × Int)} (w : Nat) (h : ys.length ≤ 7) : (lvM ys w 0).length ≤ 7 ∧ (lvM ys w 1).length ≤ 19 ∧ (lvM ys w 2).length ≤ 109 ∧ (lvM ys w 3).length ≤ 3079 := by
  have a0 : (lvM ys w 0).length ≤ 7 := by simpa [lvM, singles] using h
  have l1 : 4 * (lvM ys w 1).length ≤ _ := (canc_ok (lvM ys w 0) (colY ys (w - 1 - 0)) (0 + 2)).len
  have m1 := Nat.mul_le_mul a0 a0
  have a1 : (lvM ys w 1).length ≤ 19 := by omega
  have l2 : 4 * (lvM ys w 2).length ≤ _ := (canc_ok (lvM ys w 1) (colY ys (w - 1 - 1)) (1 + 2)).len
  have m2 := Nat.mul_le_mul a1 a1
  have a2 : (lvM ys w 2).length ≤ 109 := by omega
  have l3 : 4 * (lvM ys w 3).length ≤ _ := (canc_ok (lvM ys w 2) (colY ys (w - 1 - 2)) (2 + 2)).len
  have m3 := Nat.mul_le_mul a2 a2
  exact ⟨a0, a1, a2, by omega⟩
theorem lv_count' {ys : List (List Int × Int)} (w : Nat) (h : ys.length ≤ 7) {k : Nat} (hk : k ≤ 2) : (lvM ys w k).length ≤ 109 := by
  have := lv_count w h
  rcases (show k = 0 ∨ k = 1 ∨ k = 2 by omega) with rfl | rfl | rfl <;> omega
theorem lv_count3 {ys : List (List Int × Int)} (w : Nat) (h : ys.length ≤ 7) {k : Nat} (hk : k ≤ 3) : (lvM ys w k).length ≤ 3079 := by
  have := lv_count w h
  rcases (show k = 0 ∨ k = 1 ∨ k = 2 ∨ k = 3 by omega) with rfl | rfl | rfl | rfl <;> omega
set_option genSizeOf false in
set_option genInjectivity false in
structure CapY (ys : List (List Int × Int)) (ms : List Int) (n : Nat) : Prop where
  len : ms.length = ys.length
  one : ∀ i, i < ys.length → 1 ≤ nth ms i
  two : ∀ i j, i < ys.length → j < ys.length → i ≠ j → nth ms i * nth ms j < 2 ^ n
  low : ∀ i, i < ys.length → nth ms i < 2 ^ n
  row : ∀ k, CapC ms (colY ys k)
  lim : CapC ms (ys.map fun y => y.2)
noncomputable def szN (n : Nat) : Nat → Nat
  | 0 => n
  | 1 => n + 1
  | k + 2 => 2 * szN n (k + 1) + 1
theorem sz_ok {ys : List (List Int × Int)} {ms : List Int} {n : Nat} (h : CapY ys ms n) (w : Nat) : ∀ k, SzL ms (szN n k) (lvM ys w k)
  | 0 => Sz_zero h.len h.low
  | 1 => Sz_first (canc_ok _ _ _) h.len (by simp [colY]) (h.row _) h.two h.low
  | k + 2 => Sz_next (canc_ok _ _ _) (fun v hv => ((lv_ok ys w (k + 1)).cn v hv).wt) h.len (by simp [colY]) (h.row _) (sz_ok h w (k + 1))
theorem sz_le (n : Nat) {k : Nat} (hk : k ≤ 2) : szN n k ≤ 2 * n + 3 := by
  rcases (show k = 0 ∨ k = 1 ∨ k = 2 by omega) with rfl | rfl | rfl <;> simp [szN] <;> omega
theorem sz_le3 (n : Nat) {k : Nat} (hk : k ≤ 3) : szN n k ≤ 4 * n + 7 := by
  rcases (show k = 0 ∨ k = 1 ∨ k = 2 ∨ k = 3 by omega) with rfl | rfl | rfl | rfl <;> simp [szN] <;> omega
theorem pow_cast (n : Nat) : (((2 ^ n : Nat)) : Int) = 2 ^ n := by push_cast; rfl
theorem sm_of {n : Nat} {x m : Int} (h : -m ≤ x ∧ x ≤ m) (hm : m < 2 ^ n) : Sm n x := by
  unfold Sm
  have q : ((x.natAbs : Nat) : Int) < ((2 ^ n : Nat) : Int) := by
    rw [pow_cast]
    omega
  exact_mod_cast q
theorem CapY.sm {ys : List (List Int × Int)} {ms : List Int} {n : Nat} (h : CapY ys ms n) (hl : ∀ y ∈ ys, y.1.length ≤ 1000) : ∀ y ∈ ys, SmP n y := fun y hy => by
  obtain ⟨i, hi, rfl⟩ := List.mem_iff_getElem.mp hy
  have low := h.low i hi
  refine ⟨fun x hx => ?_, ?_, hl _ hy⟩
  · obtain ⟨k, hk, rfl⟩ := List.mem_iff_getElem.mp hx
    have := h.row k i
    rw [show nth (colY ys k) i = ys[i].1[k] by simp [nth, colY, hi, hk]] at this
    exact sm_of this low
  · have := h.lim i
    rw [show nth (ys.map fun y => y.2) i = ys[i].2 by simp [nth, hi]] at this
    exact sm_of this low
theorem CapY.wt {ys : List (List Int × Int)} {ms : List Int} {n : Nat} (h : CapY ys ms n) {w k : Nat} {v : List Int} (hv : v ∈ lvM ys w k) : ∀ x ∈ v, Sm (szN n k) x := wt_sm ((lv_ok ys w k).cn v hv).wt h.len h.one (sz_ok h w k v hv)
theorem CapY.zs {ys : List (List Int × Int)} {ms : List Int} {n : Nat} (h : CapY ys ms n) {w k j : Nat} (hj : j ≤ 1000) : ∀ z ∈ zsF ys (lvM ys w k) j, SmP (szN n k) z := fun z hz => by
  obtain ⟨v, hv, rfl⟩ := List.mem_map.mp hz
  have wv := ((lv_ok ys w k).cn v hv).wt
  have s := sz_ok h w k v hv
  refine ⟨fun x hx => ?_, cap_sm wv h.len (by simp) h.lim s, by rw [wRow_len]; exact hj⟩
  obtain ⟨i, hi, rfl⟩ := List.mem_map.mp hx
  exact cap_sm wv h.len (by simp [colY]) (h.row i) s
theorem zs_len {ys : List (List Int × Int)} {L : List (List Int)} {k : Nat} : ∀ z ∈ zsF ys L k, z.1.length = k := fun z hz => by
  obtain ⟨v, hv, rfl⟩ := List.mem_map.mp hz
  exact wRow_len _ _ _
theorem short_sm {n : Nat} {a : List Int} (h : ∀ i ∈ a, Sm n i) : ∀ i ∈ shortL a, Sm n i := fun i hi => by
  obtain ⟨j, hj, rfl⟩ := List.mem_map.mp hi
  have e := Int.mul_ediv_cancel' (divL_dvd hj)
  have p := divL_pos a
  unfold Sm at *
  have hj' := h j hj
  have : (j / divL a).natAbs ≤ j.natAbs := by
    have e2 : (divL a).natAbs * (j / divL a).natAbs = j.natAbs := by rw [← Int.natAbs_mul, e]
    have : 1 * (j / divL a).natAbs ≤ (divL a).natAbs * (j / divL a).natAbs := Nat.mul_le_mul_right _ (by first | assumption | exact Nat.le_of_lt ‹_› | omega)
    omega
  omega
theorem restB_sm {a b k : Nat} {p z : List Int × Int} (hz : SmP a z) (hp : SmP b p) (hzl : z.1.length = k + 1) (hk : k ≤ 2) : Sm (a + b + 2) (restB p z) := by
  unfold restB
  have h1 : Sm (a + b) (z.2 * p.2) := hz.lim.mul hp.lim
  have h2 := dot_le a b z.1.dropLast p.1 (fun i hi => hz.row i (List.dropLast_subset _ hi)) hp.row
  rw [List.length_dropLast, hzl, show k + 1 - 1 = k by omega] at h2
  have h3 : k * 2 ^ (a + b) ≤ 2 * 2 ^ (a + b) := Nat.mul_le_mul_right _ hk
  unfold Sm at *
  rw [show a + b + 2 = (a + b) + 1 + 1 by omega, Nat.pow_succ, Nat.pow_succ]
  have := Int.natAbs_sub_le (z.2 * p.2) (dot z.1.dropLast p.1)
  omega
theorem last_mem {z : List Int × Int} {n : Nat} (h : SmP n z) : Sm n (lastB z) := by
  unfold lastB
  by_cases e : z.1 = []
  · rw [e]; exact Sm.lit (by simp; exact Nat.pow_pos (by decide))
  · have s := split_last e
    refine h.row _ ?_
    generalize z.1.getLastD 0 = x at s ⊢
    rw [s]
    simp
theorem edge_sm {a b k : Nat} {p z : List Int × Int} (hz : SmP a z) (hp : SmP b p) (hzl : z.1.length = k + 1) (hk : k ≤ 2) : ∀ i ∈ edgeRow p z, Sm (a + b + 2) i := fun i hi => by
  have hl := last_mem hz
  have ht : Sm a (edgeT p z).2 := by
    show Sm a (if lastB z < 0 then -lastB z else lastB z)
    split
    · exact hl.neg
    · exact hl
  have hr := restB_sm hz hp hzl hk
  rcases List.mem_append.mp hi with q | q
  · rcases List.mem_append.mp q with q | q
    · obtain ⟨j, hj, rfl⟩ := List.mem_map.mp q
      exact ((hp.row j hj).mul ht).mono (by first | assumption | exact Nat.le_of_lt ‹_› | omega)
    · rw [List.mem_singleton.mp q]
      show Sm _ (if 0 < lastB z then restB p z else -restB p z)
      split
      · exact hr
      · exact hr.neg
  · rw [List.mem_singleton.mp q]
    exact (hp.lim.mul ht).mono (by first | assumption | exact Nat.le_of_lt ‹_› | omega)
theorem edgeP_sm {a b k : Nat} {p z : List Int × Int} (hz : SmP a z) (hp : SmP b p) (hzl : z.1.length = k + 1) (hpl : p.1.length = k) (hk : k ≤ 2) : SmP (a + b + 2) (edgeP p z) := by
  have h := short_sm (edge_sm hz hp hzl hk)
  have hl : (shortL (edgeRow p z)).length = k + 2 := by rw [short_len]; simp [edgeRow, ptOf, hpl]
  have s := split_last (a := shortL (edgeRow p z)) (by intro e; rw [e] at hl; simp at hl)
  refine ⟨fun i hi => h i (List.dropLast_subset _ hi), h _ ?_, ?_⟩
  · show (shortL (edgeRow p z)).getLastD 0 ∈ _
    generalize (shortL (edgeRow p z)).getLastD 0 = x at s ⊢
    rw [s]
    simp
  · show (shortL (edgeRow p z)).dropLast.length ≤ 1000
    rw [List.length_dropLast, hl]
    omega
theorem cand_sm {a b k : Nat} {p q : List Int × Int} {zs : List (List Int × Int)} (hz : ∀ z ∈ zs, SmP a z) (hp : SmP b p) (hzl : ∀ z ∈ zs, z.1.length = k + 1) (hpl : p.1.length = k) (hk : k ≤ 2) (h : q ∈ cands p zs) : SmP (a + b + 2) q := by
  rcases List.mem_cons.mp h with rfl | h
  · refine ⟨fun i hi => ?_, hp.lim.mono (by first | assumption | exact Nat.le_of_lt ‹_› | omega), by simp [hpl]; omega⟩
    rcases List.mem_append.mp hi with e | e
    · exact (hp.row i e).mono (by first | assumption | exact Nat.le_of_lt ‹_› | omega)
    · rw [List.mem_singleton.mp e]
      exact Sm.lit (by simp; exact Nat.pow_pos (by decide))
  · obtain ⟨z, hm, rfl⟩ := List.mem_map.mp h
    have hm := (List.mem_filter.mp hm).1
    exact edgeP_sm (hz z hm) hp (hzl z hm) hpl hk
theorem up_ok {ys : List (List Int × Int)} {ms : List Int} {n w k b : Nat} {p : List Int × Int} (hc : CapY ys ms n) (hy : ∀ y ∈ ys, y.1.length = w) (hw : w ≤ 3) (hk : k < w) (hp : Pt k p) (hi : InY (zsF ys (lvM ys w (w - k)) k) p) (hs : SmP b p) :
    ∃ q, raisedM p (zsF ys (lvM ys w (w - (k + 1))) (k + 1)) = some q ∧ Pt (k + 1) q ∧ InY (zsF ys (lvM ys w (w - (k + 1))) (k + 1)) q ∧ SmP (szN n (w - (k + 1)) + b + 2) q := by
  have l := raise_ok hy hk (lv_ok ys w (w - k - 1)) (lv_ok ys w (w - k)) hi
  rw [show w - k - 1 = w - (k + 1) by omega] at l
  cases e : raisedM p (zsF ys (lvM ys w (w - (k + 1))) (k + 1)) with
  | none =>
    have := raised_none hp zs_len e
    rw [this] at l
    cases l
  | some q =>
    obtain ⟨m, a, i, _⟩ := raised_some hp zs_len e
    exact ⟨q, rfl, a.pt, i, cand_sm (hc.zs (by first | assumption | exact Nat.le_of_lt ‹_› | omega)) hs zs_len hp.len (by first | assumption | exact Nat.le_of_lt ‹_› | omega) m⟩
theorem zero_in {ys : List (List Int × Int)} {L : List (List Int)} (h : ∀ v ∈ L, 0 ≤ wLim ys v) : InY (zsF ys L 0) ([], 1) := fun z hz => by
  obtain ⟨v, hv, rfl⟩ := List.mem_map.mp hz
  have := h v hv
  show dot (wRow ys v 0) [] ≤ wLim ys v * 1
  rw [dot_nil]
  omega
theorem capY_of {ys : List (List Int × Int)} {ms : List Int} {n : Nat} (hl : ms.length = ys.length) (h1 : ∀ i, i < ys.length → 1 ≤ nth ms i) (h2 : ∀ i j, i < ys.length → j < ys.length → i ≠ j → nth ms i * nth ms j < 2 ^ n) (h0 : ∀ i, i < ys.length → nth ms i < 2 ^ n)
    (hr : ∀ (i : Nat) (hi : i < ys.length), (∀ x ∈ ys[i].1, -nth ms i ≤ x ∧ x ≤ nth ms i) ∧ -nth ms i ≤ ys[i].2 ∧ ys[i].2 ≤ nth ms i) : CapY ys ms n := by
  refine ⟨hl, h1, h2, h0, fun k i => ?_, fun i => ?_⟩
  · rcases Nat.lt_or_ge i ys.length with hi | hi
    · have e : nth (colY ys k) i = nth ys[i].1 k := by simp [nth, colY, hi]
      rw [e]
      rcases Nat.lt_or_ge k ys[i].1.length with hk | hk
      · have e2 : nth ys[i].1 k = ys[i].1[k] := by simp [nth, hk]
        rw [e2]
        exact (hr i hi).1 _ (List.getElem_mem hk)
      · rw [nth_out hk]
        have := h1 i hi
        omega
    · rw [nth_out (show (colY ys k).length ≤ i by simp [colY]; omega), nth_out (show ms.length ≤ i by omega)]
      omega
  · rcases Nat.lt_or_ge i ys.length with hi | hi
    · have e : nth (ys.map fun y => y.2) i = ys[i].2 := by simp [nth, hi]
      rw [e]
      exact (hr i hi).2
    · rw [nth_out (show (ys.map fun y => y.2).length ≤ i by simp; omega), nth_out (show ms.length ≤ i by omega)]
      omega
theorem reach_cap {i : Int} (h : reach i = true) : -(2 ^ 20 : Int) ≤ i ∧ i ≤ 2 ^ 20 := by
  have := Sm.of_reach h
  unfold Sm at this
  omega
theorem nth_rep {m i : Nat} {x : Int} (h : i < m) : nth (List.replicate m x) i = x := by simp [nth, h]
theorem cap_yard {w : Int} {ys : List (List Int × Int)} (h : ∀ y ∈ ys, Bd w y) : CapY ys (List.replicate ys.length (2 ^ 20)) 41 := by
  refine capY_of (by simp) (fun i hi => by rw [nth_rep hi]; decide) (fun i j hi hj _ => by rw [nth_rep hi, nth_rep hj]; decide) (fun i hi => by rw [nth_rep hi]; decide) (fun i hi => ?_)
  rw [nth_rep hi]
  have b := h _ (List.getElem_mem hi)
  exact ⟨fun x hx => reach_cap (b.row x hx), reach_cap b.lim⟩
theorem sm_cap {B : Nat} {x : Int} (h : Sm B x) : -(2 ^ B : Int) ≤ x ∧ x ≤ 2 ^ B := by
  unfold Sm at h
  have q : ((x.natAbs : Nat) : Int) < ((2 ^ B : Nat) : Int) := by exact_mod_cast h
  rw [pow_cast] at q
  omega
theorem nth_snoc {a : List Int} {x : Int} : nth (a ++ [x]) a.length = x := by simp [nth]
theorem cap_more {w : Int} {ys : List (List Int × Int)} {a : List Int × Int} {B : Nat} (h : ∀ y ∈ ys, Bd w y) (hB : 20 ≤ B) (ha : ∀ i ∈ a.1, Sm B i) (hl : Sm B a.2) : CapY (ys ++ [a]) (List.replicate ys.length (2 ^ 20) ++ [2 ^ B]) (B + 21) := by
  have p20 : (2 : Int) ^ 20 ≤ 2 ^ B := pow_le hB
  have e1 : ∀ i, i < ys.length → nth (List.replicate ys.length (2 ^ 20 : Int) ++ [2 ^ B]) i = 2 ^ 20 := fun i hi => by rw [nth_app (by simpa using hi), nth_rep hi]
  have e2 : nth (List.replicate ys.length (2 ^ 20 : Int) ++ [2 ^ B]) ys.length = 2 ^ B := by
    have := nth_snoc (a := List.replicate ys.length (2 ^ 20 : Int)) (x := 2 ^ B)
    rwa [List.length_replicate] at this
  have hlen : (ys ++ [a]).length = ys.length + 1 := by simp
  have pB : (2 : Int) ^ (B + 21) = 2 ^ B * 2 ^ 21 := Int.pow_add ..
  have p0 : (0 : Int) < 2 ^ B := Int.pow_pos (by decide)
  refine capY_of (by simp) (fun i hi => ?_) (fun i j hi hj ne => ?_) (fun i hi => ?_) (fun i hi => ?_)
  · rcases Nat.lt_or_ge i ys.length with z | z
    · rw [e1 i z]; decide
    · rw [show i = ys.length by omega, e2]; omega
  · rw [pB]
    rcases Nat.lt_or_ge i ys.length with z | z
    · rw [e1 i z]
      rcases Nat.lt_or_ge j ys.length with y | y
      · rw [e1 j y]
        omega
      · rw [show j = ys.length by omega, e2]
        omega
    · rw [show i = ys.length by omega, e2, e1 j (by first | assumption | exact Nat.le_of_lt ‹_› | omega)]
      omega
  · rw [pB]
    rcases Nat.lt_or_ge i ys.length with z | z
    · rw [e1 i z]; omega
    · rw [show i = ys.length by omega, e2]; omega
  · rcases Nat.lt_or_ge i ys.length with z | z
    · rw [e1 i z, List.getElem_append_left z]
      have b := h _ (List.getElem_mem z)
      exact ⟨fun x hx => reach_cap (b.row x hx), reach_cap b.lim⟩
    · have q : i = ys.length := by omega
      subst q
      rw [e2]
      simp only [List.getElem_concat_length]
      exact ⟨fun x hx => sm_cap (ha x hx), sm_cap hl⟩

set_option genSizeOf false in
set_option genInjectivity false in
structure Yd (w : Nat) (ys : List (List Int × Int)) : Prop where
  lo : 1 ≤ w
  hi : w ≤ 3
  few : ys.length ≤ 6
  bd : ∀ y ∈ ys, Bd w y
theorem Yd.len {w : Nat} {ys : List (List Int × Int)} (h : Yd w ys) : ∀ y ∈ ys, y.1.length = w := fun y hm => by have := (h.bd y hm).len; omega
theorem Yd.sm {w : Nat} {ys : List (List Int × Int)} (h : Yd w ys) {n : Nat} (hn : 20 ≤ n) : ∀ y ∈ ys, SmP n y := fun y hm => by
  have q := (h.bd y hm).sm (by have := h.hi; omega)
  exact ⟨fun i hi => (q.row i hi).mono hn, q.lim.mono hn, q.len⟩
theorem Yd.both {w : Nat} {ys : List (List Int × Int)} (h : Yd w ys) {n : Nat} (hn : 20 ≤ n) : ∀ y ∈ ys, SmP n y ∧ y.1.length = w := fun y hm => ⟨h.sm hn y hm, h.len y hm⟩
noncomputable def yD (ys : List (List Int × Int)) : D := .tup (ys.map bD)
noncomputable def big : Nat := 8000
@[simp] theorem isNon_b (y : List Int × Int) : isNonD (bD y) .non = some (.bl false) := rfl
@[simp] theorem isNon_row (a : List Int) : isNonD (rowD a) .non = some (.bl false) := rfl
@[simp] theorem isNon_non : isNonD .non .non = some (.bl true) := rfl
@[simp] theorem notNon_b (y : List Int × Int) : notNonD (bD y) .non = some (.bl true) := rfl
@[simp] theorem notNon_row (a : List Int) : notNonD (rowD a) .non = some (.bl true) := rfl
@[simp] theorem notNon_non : notNonD .non .non = some (.bl false) := rfl
theorem Yd.of {w : Int} {mo x : Int} {ys : List (List Int × Int)} (h1 : 1 ≤ w) (h3 : w ≤ 3) (hm : mo ≤ 6) (hl : (ys.length : Int) ≤ mo ∧ (ys.length : Int) = x) (hb : ∀ y ∈ ys, Bd w y) : Yd w.toNat ys :=
  ⟨by omega, by omega, by omega, fun y hy => by rw [show ((w.toNat : Nat) : Int) = w by omega]; exact hb y hy⟩

noncomputable def spec_numbers_at (F : List D → Option D) : Prop := ∀ (ys : List (List Int × Int)) (k : Nat), (∀ y ∈ ys, k < y.1.length) → ys.length ≤ 1000 → ∀ Y : D, seqD Y = some (ys.map bD) → F [Y, .int k] = some (.lst ((colY ys k).map D.int))
noncomputable def spec_weighted_limit (F : List D → Option D) : Prop := ∀ (n : Nat) (ys : List (List Int × Int)) (ws : List Int), n ≤ 900000 → (∀ y ∈ ys, Sm n y.2) → (∀ i ∈ ws, Sm n i) → ys.length ≤ 1000 → ws.length ≤ 1000 → ∀ Y : D, seqD Y = some (ys.map bD) → F [Y, rowD ws] = some (.int (wLim ys ws))
noncomputable def spec_weighted (F : List D → Option D) : Prop := ∀ (n : Nat) (ys : List (List Int × Int)) (ws : List Int) (w : Nat), n ≤ 900000 → (∀ y ∈ ys, SmP n y ∧ w ≤ y.1.length) → (∀ i ∈ ws, Sm n i) → w ≤ 1000 → ys.length ≤ 1000 → ws.length ≤ 1000 → ∀ Y : D, seqD Y = some (ys.map bD) → F [Y, rowD ws, .int w] = some (bD (wRow ys ws w, wLim ys ws))
noncomputable def spec_common_divisor (F : List D → Option D) : Prop := ∀ a : List Int, (∀ i ∈ a, Sm 9000 i) → F [.lst (a.map D.int)] = some (.int (gcdL a))
noncomputable def spec_shortened (F : List D → Option D) : Prop := ∀ a : List Int, (∀ i ∈ a, Sm 9000 i) → a.length ≤ 1000 → F [.lst (a.map D.int)] = some (rowD (shortL a))
noncomputable def spec_single_weights (F : List D → Option D) : Prop := ∀ m j : Nat, m ≤ 1000 → F [.int m, .int j] = some (rowD (single m j))
noncomputable def spec_all_single_weights (F : List D → Option D) : Prop := ∀ m : Nat, m ≤ 1000 → F [.int m] = some (.lst ((singles m).map rowD))
noncomputable def spec_used_by_either (F : List D → Option D) : Prop := ∀ r f : List Int, r.length ≤ 1000 → F [rowD r, rowD f] = some (.int (usedL r f))
noncomputable def spec_cancelling_sum (F : List D → Option D) : Prop := ∀ (n k m : Nat) (r f c : List Int), 2 * n + k + 20 ≤ 9000 → m ≤ 1000 → r.length = m → f.length = m → c.length = m → (∀ i ∈ r, Sm n i) → (∀ i ∈ f, Sm n i) → (∀ i ∈ c, Sm k i) → F [rowD r, rowD f, .lst (c.map D.int)] = some (rowD (shortL (combW r f c)))
noncomputable def spec_cancelled (F : List D → Option D) : Prop := ∀ (n k m most : Nat) (L : List (List Int)) (c : List Int), 2 * n + k + 20 ≤ 9000 → m ≤ 1000 → (∀ v ∈ L, v.length = m ∧ ∀ i ∈ v, Sm n i) → c.length = m → (∀ i ∈ c, Sm k i) → L.length ≤ 1000 → F [.lst (L.map rowD), .lst (c.map D.int), .int most] = some (.lst ((cancM L c most).map rowD))
theorem gcdL_snoc (a : List Int) (i : Int) : gcdL (a ++ [i]) = Nat.gcd (gcdL a) i.natAbs := by simp [gcdL, List.foldl_append]
theorem abs_nat (i : Int) : (if i < 0 then -i else i) = (i.natAbs : Int) := by split <;> omega
theorem Sm.of_le {n : Nat} {i j : Int} (h : Sm n i) (k : j.natAbs ≤ i.natAbs) : Sm n j := Nat.lt_of_le_of_lt k h
theorem divL_sm {n : Nat} {a : List Int} (h : ∀ i ∈ a, Sm n i) (hn : 1 ≤ n) : Sm n (divL a) := by
  by_cases z : ∃ i ∈ a, i ≠ 0
  · obtain ⟨i, hi, h0⟩ := z
    have := Int.natAbs_dvd_natAbs.mpr (divL_dvd hi)
    exact (h i hi).of_le (Nat.le_of_dvd (by first | assumption | exact Nat.le_of_lt ‹_› | omega) this)
  · have hz : ∀ i ∈ a, i = 0 := fun i hi => Classical.byContradiction fun y => z ⟨i, hi, y⟩
    have g0 : gcdL a = 0 := by
      unfold gcdL
      clear h z
      induction a with
      | nil => rfl
      | cons b a ih =>
        rw [List.foldl_cons, hz b List.mem_cons_self]
        exact ih fun i hi => hz i (List.mem_cons_of_mem _ hi)
    unfold divL
    rw [g0]
    exact Sm.lit (by show (1 : Int).natAbs < 2 ^ n; exact Nat.lt_of_lt_of_le (by decide) (Nat.pow_le_pow_right (n := 2) (by decide) hn))
theorem cdiv_sm {n : Nat} {i j : Int} (hj : 0 < j) (h : Sm n j) (hn : n ≤ 9000) : CDiv i j := ⟨hj, (h.mono hn).log (by decide)⟩
theorem while_gcd {p : Rho → Option Bool} {g : Rho → Option Out} {A B : Option PV}
    (hp : ∀ (x y : Nat) (z : Option PV), p [A, some (.sh (.int x)), B, some (.sh (.int y)), z] = some (decide (0 < y)))
    (hg : ∀ (x y : Nat) (z : Option PV), 0 < y → g [A, some (.sh (.int x)), B, some (.sh (.int y)), z] = some (.nx [A, some (.sh (.int y)), B, some (.sh (.int (x % y : Nat))), some (.sh (.int (x % y : Nat)))])) :
    ∀ (k x y fuel : Nat) (z : Option PV), y < 2 ^ k → 2 * k + 1 ≤ fuel → ∃ z', whileD fuel p g [A, some (.sh (.int x)), B, some (.sh (.int y)), z] = some (.nx [A, some (.sh (.int (Nat.gcd x y))), B, some (.sh (.int 0)), z']) := by
  intro k
  induction k with
  | zero =>
    intro x y fuel z hy hf
    have y0 : y = 0 := by simp at hy; exact hy
    subst y0
    obtain ⟨fuel, rfl⟩ : ∃ f, fuel = f + 1 := ⟨fuel - 1, by omega⟩
    refine ⟨z, ?_⟩
    rw [while_f (by rw [hp]; rfl), Nat.gcd_zero_right]
    rfl
  | succ k ih =>
    intro x y fuel z hy hf
    obtain ⟨fuel, rfl⟩ : ∃ f, fuel = f + 2 := ⟨fuel - 2, by omega⟩
    by_cases y0 : y = 0
    · subst y0
      refine ⟨z, ?_⟩
      rw [while_f (by rw [hp]; rfl), Nat.gcd_zero_right]
      rfl
    · have yp : 0 < y := by omega
      rw [while_t (by rw [hp, decide_eq_true yp]) (hg x y z yp)]
      have g1 : Nat.gcd x y = Nat.gcd y (x % y) := by rw [Nat.gcd_comm x y, Nat.gcd_rec y x, Nat.gcd_comm]
      by_cases r0 : x % y = 0
      · refine ⟨some (.sh (.int (x % y : Nat))), ?_⟩
        rw [while_f (by rw [hp, r0]; rfl), g1, r0, Nat.gcd_zero_right]
        rfl
      · have rp : 0 < x % y := by omega
        rw [while_t (by rw [hp, decide_eq_true rp]) (hg y (x % y) _ rp)]
        have g2 : Nat.gcd y (x % y) = Nat.gcd (x % y) (y % (x % y)) := by rw [Nat.gcd_comm y, Nat.gcd_rec (x % y) y, Nat.gcd_comm]
        rw [g1, g2]
        refine ih (x % y) (y % (x % y)) fuel _ ?_ (by first | assumption | exact Nat.le_of_lt ‹_› | omega)
        have l1 : x % y < y := Nat.mod_lt _ yp
        have l2 : y % (x % y) < x % y := Nat.mod_lt _ rp
        have l3 : y % (x % y) + (x % y) * (y / (x % y)) = y := Nat.mod_add_div _ _
        have l4 : 1 ≤ y / (x % y) := (Nat.one_le_div_iff rp).mpr (by first | assumption | exact Nat.le_of_lt ‹_› | omega)
        have l5 : (x % y) * 1 ≤ (x % y) * (y / (x % y)) := Nat.mul_le_mul_left _ l4
        rw [Nat.pow_succ] at hy
        omega
theorem while_gcdx {p : Rho → Option Bool} {g : Rho → Option Out} {A B z : Option PV} {x y fuel k : Nat} {J : Rho → Prop}
    (hp : ∀ (x y : Nat) (z : Option PV), p [A, some (.sh (.int x)), B, some (.sh (.int y)), z] = some (decide (0 < y)))
    (hg : ∀ (x y : Nat) (z : Option PV), 0 < y → g [A, some (.sh (.int x)), B, some (.sh (.int y)), z] = some (.nx [A, some (.sh (.int y)), B, some (.sh (.int (x % y : Nat))), some (.sh (.int (x % y : Nat)))]))
    (hy : y < 2 ^ k) (hf : 2 * k + 1 ≤ fuel) (hJ : ∀ z', J [A, some (.sh (.int (Nat.gcd x y))), B, some (.sh (.int 0)), z']) : ∃ ρ', whileD fuel p g [A, some (.sh (.int x)), B, some (.sh (.int y)), z] = some (.nx ρ') ∧ J ρ' := by
  obtain ⟨z', e⟩ := while_gcd hp hg k x y fuel z hy hf
  exact ⟨_, e, hJ z'⟩
theorem sx_set {f : Rho → Option D} {k : Rho → Option Out} {i : Nat} {ρ : Rho} {J : Rho → Prop} (d : D) (h : f ρ = some d) (h2 : ∃ ρ', k (ρ.set i (some (.sh d))) = some (.nx ρ') ∧ J ρ') : ∃ ρ', seqO (fun ρ => (f ρ).bind fun d => some (.nx (ρ.set i (some (.sh d))))) k ρ = some (.nx ρ') ∧ J ρ' := by
  obtain ⟨ρ', e, j⟩ := h2
  exact ⟨ρ', sq_set d h e, j⟩
theorem for_ex {α : Type} (fa : α → D) {it : Rho → Option (List D)} {bd : D → Rho → Option Rho} {g : Rho → Option Out} {ρ : Rho} {J : Rho → Prop} (as : List α) (inv : List α → Rho → Prop) (h : it ρ = some (as.map fa)) (h0 : inv [] ρ)
    (H : ∀ (p : List α) (a : α) (q : List α) (ρ : Rho), as = p ++ a :: q → inv p ρ → ∃ ρ1, bd (fa a) ρ = some ρ1 ∧ ∃ ρ', g ρ1 = some (.nx ρ') ∧ inv (p ++ [a]) ρ') (h2 : ∀ ρ', inv as ρ' → J ρ') : ∃ ρ', forD it bd g ρ = some (.nx ρ') ∧ J ρ' := by
  obtain ⟨ρ', e, i⟩ := forG_all fa inv as ρ h0 H
  exact ⟨ρ', for_at _ h e, h2 ρ' i⟩
noncomputable def invG (a pre : List Int) (ρ : Rho) : Prop := ∃ x y z, ρ = [some (.sh (.lst (a.map D.int))), some (.sh (.int (gcdL pre))), x, y, z]

theorem rng_is {W : Int} {w' : Nat} (h : w' ≤ 1000) (hW : (w' : Int) = W) : rng1 [.int W] = some ((List.range w').map fun k : Nat => D.int (0 + (k : Int))) := by
  have hWn : W.toNat = w' := by omega
  rw [rng1_small (j := W) (by first | assumption | exact Nat.le_of_lt ‹_› | omega) (by first | assumption | exact Nat.le_of_lt ‹_› | omega)]
  unfold rngL
  rw [hWn]
theorem rng_b {f : Rho → Option D} {ρ : Rho} {W : Int} {w' : Nat} (hf : f ρ = some (.int W)) (h : w' ≤ 1000) (hW : (w' : Int) = W) : b1 (cons2 f fun x => some []) rng1 ρ = some ((List.range w').map fun k : Nat => D.int (0 + (k : Int))) := by
  rw [b1_at [.int W] (by unfold cons2; unfold b2; rw [hf]; rfl)]
  exact rng_is h hW
theorem any_rows (v : List Int) (L : List (List Int)) : ((L.map rowD).any fun z => eqD z (rowD v)) = decide (v ∈ L) := by
  induction L with
  | nil => rfl
  | cons a L ih =>
    rw [List.map_cons, List.any_cons, ih]
    have e : eqD (rowD a) (rowD v) = decide (a = v) := by
      show eqDs (a.map D.int) (v.map D.int) = _
      exact eqDs_ints a v
    rw [e]
    by_cases h : a = v
    · subst h; simp
    · by_cases h2 : v ∈ L
      · simp [h, h2]
      · simp [h, h2]
        exact fun z => h z.symm
theorem notIn_rows (v : List Int) (L : List (List Int)) : notInD (rowD v) (.lst (L.map rowD)) = some (.bl (!decide (v ∈ L))) := by
  unfold notInD
  dsimp only
  rw [if_pos, any_rows]
  rw [List.all_eq_true]
  intro z hz
  obtain ⟨a, _, rfl⟩ := List.mem_map.mp hz
  refine decide_eq_true ?_
  simp only [rowD, dep, deps_ints]
  omega
theorem forG_find {α : Type} (fa fr : α → D) {bd : D → Rho → Option Rho} {g : Rho → Option Out} (p : α → Bool) (inv : Rho → Prop) : ∀ (as : List α) (ρ : Rho), inv ρ →
    (∀ a ∈ as, ∀ ρ, inv ρ → ∃ ρ1, bd (fa a) ρ = some ρ1 ∧ (p a = true → g ρ1 = some (.rt (fr a))) ∧ (p a = false → ∃ ρ', g ρ1 = some (.nx ρ') ∧ inv ρ')) →
    (∃ a, as.find? p = some a ∧ forG bd g (as.map fa) ρ = some (.rt (fr a))) ∨ (as.find? p = none ∧ ∃ ρ', forG bd g (as.map fa) ρ = some (.nx ρ') ∧ inv ρ')
  | [], ρ, h, _ => .inr ⟨rfl, ρ, rfl, h⟩
  | a :: as, ρ, h, H => by
    obtain ⟨ρ1, e1, h1, h2⟩ := H a List.mem_cons_self ρ h
    cases hp : p a with
    | true =>
      refine .inl ⟨a, by rw [List.find?_cons_of_pos hp], ?_⟩
      show (bd (fa a) ρ).bind _ = _
      rw [e1]
      simp only [Option.bind_some]
      rw [h1 hp]
      rfl
    | false =>
      obtain ⟨ρ2, e2, i2⟩ := h2 hp
      have ee : forG bd g ((a :: as).map fa) ρ = forG bd g (as.map fa) ρ2 := by
        show (bd (fa a) ρ).bind _ = _
        rw [e1]
        simp only [Option.bind_some]
        rw [e2]
        rfl
      rw [ee, List.find?_cons_of_neg (by simp [hp])]
      exact forG_find fa fr p inv as ρ2 i2 fun b hb ρ' h' => H b (List.mem_cons_of_mem _ hb) ρ' h'
theorem sq_find {α : Type} (fa fr : α → D) {it : Rho → Option (List D)} {bd : D → Rho → Option Rho} {g k : Rho → Option Out} {ρ : Rho} {o : Option Out} (as : List α) (p : α → Bool) (inv : Rho → Prop) (h : it ρ = some (as.map fa)) (h0 : inv ρ)
    (H : ∀ a ∈ as, ∀ ρ, inv ρ → ∃ ρ1, bd (fa a) ρ = some ρ1 ∧ (p a = true → g ρ1 = some (.rt (fr a))) ∧ (p a = false → ∃ ρ', g ρ1 = some (.nx ρ') ∧ inv ρ'))
    (h1 : ∀ a, as.find? p = some a → some (.rt (fr a)) = o) (h2 : as.find? p = none → ∀ ρ', inv ρ' → k ρ' = o) : seqO (forD it bd g) k ρ = o := by
  rcases forG_find fa fr p inv as ρ h0 H with ⟨a, ha, e⟩ | ⟨hn, ρ', e, i⟩
  · rw [sq_r (for_at _ h e)]
    exact h1 a ha
  · exact sq (for_at _ h e) (h2 hn ρ' i)
noncomputable def invC (A B M : D) (ab be : List D) (acc : List (List Int)) (c : List Int) (most : Nat) (fs : List (List Int)) (pre : List (List Int)) (ρ : Rho) : Prop := ∃ x y z, ρ = [some (.sh A), some (.sh B), some (.sh M), some (.ow ((outerJ c most acc pre fs).map rowD)), some (.sh (.lst ab)), some (.sh (.lst be)), x, y, z]
noncomputable def invI (A B M : D) (ab be : List D) (acc : List (List Int)) (c : List Int) (most : Nat) (r : List Int) (pre : List (List Int)) (ρ : Rho) : Prop := ∃ y z, ρ = [some (.sh A), some (.sh B), some (.sh M), some (.ow ((innerJ c most acc r pre).map rowD)), some (.sh (.lst ab)), some (.sh (.lst be)), some (.sh (rowD r)), y, z]
theorem outer_snoc (c : List Int) (most : Nat) (acc rs fs : List (List Int)) (r : List Int) : outerJ c most acc (rs ++ [r]) fs = innerJ c most (outerJ c most acc rs fs) r fs := by
  unfold outerJ
  rw [List.foldl_append]
  rfl
theorem inner_snoc (c : List Int) (most : Nat) (acc : List (List Int)) (r : List Int) (fs : List (List Int)) (f : List Int) : innerJ c most acc r (fs ++ [f]) = stepJ c most (innerJ c most acc r fs) r f := by
  unfold innerJ
  rw [List.foldl_append]
  rfl
theorem row_take (a : List Int) (k : Nat) : sliceD (rowD a) none (some (k : Int)) = some (rowD (a.take k)) := by
  show some (D.tup (cutD (a.map D.int) none (some (k : Int)))) = some (D.tup ((a.take k).map D.int))
  unfold cutD
  rw [HT.sIx_nat, HT.sIx_none, List.drop_zero, Nat.sub_zero, List.length_map, List.map_take]
  congr 2
  by_cases h : k ≤ a.length
  · rw [Nat.min_eq_left h]
  · rw [Nat.min_eq_right (by first | assumption | exact Nat.le_of_lt ‹_› | omega), List.take_of_length_le (by simp), List.take_of_length_le (by simp; omega)]
noncomputable def Ans (o : Option Out) (P : D → Prop) : Prop := ∃ d, o = some (.rt d) ∧ P d
theorem ax {a k : Rho → Option Out} {ρ ρ' : Rho} {P : D → Prop} (h : a ρ = some (.nx ρ')) (h2 : Ans (k ρ') P) : Ans (seqO a k ρ) P := by
  obtain ⟨d, e, p⟩ := h2
  exact ⟨d, sq h e, p⟩
theorem ax_r {a k : Rho → Option Out} {ρ : Rho} {P : D → Prop} (d : D) (h : a ρ = some (.rt d)) (h2 : P d) : Ans (seqO a k ρ) P := ⟨d, sq_r h, h2⟩
theorem ax_set {f : Rho → Option D} {k : Rho → Option Out} {i : Nat} {ρ : Rho} {P : D → Prop} (d : D) (h : f ρ = some d) (h2 : Ans (k (ρ.set i (some (.sh d)))) P) : Ans (seqO (fun ρ => (f ρ).bind fun d => some (.nx (ρ.set i (some (.sh d))))) k ρ) P := by
  obtain ⟨x, e, p⟩ := h2
  exact ⟨x, sq_set d h e, p⟩
theorem ax_if {t : Rho → Option Bool} {a k : Rho → Option Out} {ρ : Rho} {P : D → Prop} (h : t ρ = some false) (h2 : Ans (k ρ) P) : Ans (seqO (iteO t a fun ρ => some (.nx ρ)) k ρ) P := ax (it_f h rfl) h2
theorem ax_ift {t : Rho → Option Bool} {a b k : Rho → Option Out} {ρ : Rho} {P : D → Prop} (d : D) (h : t ρ = some true) (h2 : a ρ = some (.rt d)) (h3 : P d) : Ans (seqO (iteO t a b) k ρ) P := ax_r d (it_t h h2) h3
theorem ax_for {α : Type} (fa : α → D) {it : Rho → Option (List D)} {bd : D → Rho → Option Rho} {g k : Rho → Option Out} {ρ : Rho} {P : D → Prop} (as : List α) (inv : List α → Rho → Prop) (h : it ρ = some (as.map fa)) (h0 : inv [] ρ)
    (H : ∀ (p : List α) (a : α) (q : List α) (ρ : Rho), as = p ++ a :: q → inv p ρ → ∃ ρ1, bd (fa a) ρ = some ρ1 ∧ ∃ ρ', g ρ1 = some (.nx ρ') ∧ inv (p ++ [a]) ρ') (h2 : ∀ ρ', inv as ρ' → Ans (k ρ') P) : Ans (seqO (forD it bd g) k ρ) P := by
  obtain ⟨ρ', e, i⟩ := forG_all fa inv as ρ h0 H
  exact ax (for_at _ h e) (h2 ρ' i)
theorem ax_do {o : Option Out} {P : D → Prop} (h : Ans o P) : ∃ d, o.bind outD = some d ∧ P d := by
  obtain ⟨d, e, p⟩ := h
  exact ⟨d, by rw [e]; rfl, p⟩
theorem ax_ret {f : Rho → Option D} {ρ : Rho} {P : D → Prop} (d : D) (h : f ρ = some d) (h2 : P d) : Ans (b1 f (fun d => some (.rt d)) ρ) P := ⟨d, by rw [b1_at d h], h2⟩
theorem last_nth {z : List Int × Int} {k : Nat} (h : z.1.length = k + 1) : nth z.1 k = lastB z := by
  have s := split_last (a := z.1) (by intro e; rw [e] at h; simp at h)
  unfold lastB
  generalize z.1.getLastD 0 = x at s ⊢
  have hl : z.1.dropLast.length = k := by simp [h]
  generalize z.1.dropLast = d at s hl
  rw [s]
  simp [nth, ← hl]
theorem len_seq {Y : D} {ds : List D} (h : seqD Y = some ds) : lenD [Y] = some (.int ds.length) := by
  cases Y <;> first | (cases h; rfl) | cases h
theorem add_nil {a : List Int} (h : a.length ≤ 1000) : addD (rowD a) (.tup [.int 0]) = some (rowD (a ++ [0])) := by
  show fit _ (D.tup (a.map D.int ++ [.int 0])) = some (D.tup ((a ++ [0]).map D.int))
  rw [List.map_append]
  exact fitOk _ (by simp; omega)
theorem range_at {w : Nat} {p q : List Nat} {a : Nat} (h : List.range w = p ++ a :: q) : a = p.length ∧ a < w := by
  have hl := congrArg List.length h
  simp at hl
  have h1 : (List.range w)[p.length]? = some a := by rw [h]; simp
  rw [List.getElem?_range (by first | assumption | exact Nat.le_of_lt ‹_› | omega)] at h1
  have := Option.some.inj h1
  exact ⟨this.symm, by omega⟩
theorem rng_k {W : Int} {w' : Nat} (h : w' ≤ 1000) (hW : W = (w' : Int)) : rng1 [.int W] = some ((List.range w').map fun k : Nat => D.int (k : Int)) := by
  have hWn : W.toNat = w' := by omega
  rw [rng1_small (j := W) (by first | assumption | exact Nat.le_of_lt ‹_› | omega) (by first | assumption | exact Nat.le_of_lt ‹_› | omega)]
  unfold rngL
  rw [hWn]
  simp
theorem rng_1 {W : Int} {w' : Nat} (h : w' ≤ 1000) (hW : W = (w' : Int)) : rng2 [.int 1, .int (W + 1)] = some ((List.range w').map fun k : Nat => D.int (1 + (k : Int))) := by
  have hWn : (W + 1 - 1).toNat = w' := by omega
  show (if -(2 ^ 62) ≤ (1 : Int) ∧ (1 : Int) < 2 ^ 62 ∧ -(2 ^ 62) ≤ W + 1 ∧ W + 1 < 2 ^ 62 then some (rngL 1 (W + 1 - 1).toNat) else none) = _
  rw [if_pos ⟨by decide, by decide, by omega, by omega⟩]
  unfold rngL
  rw [hWn]
theorem rngk_b {f : Rho → Option D} {ρ : Rho} {W : Int} {w' : Nat} (hf : f ρ = some (.int W)) (h : w' ≤ 1000) (hW : W = (w' : Int)) : b1 (cons2 f fun x => some []) rng1 ρ = some ((List.range w').map fun k : Nat => D.int (k : Int)) := by
  rw [b1_at [.int W] (by unfold cons2; unfold b2; rw [hf]; rfl)]
  exact rng_k h hW
theorem rng1_b {f g : Rho → Option D} {ρ : Rho} {W : Int} {w' : Nat} (hf : f ρ = some (.int 1)) (hg : g ρ = some (.int (W + 1))) (h : w' ≤ 1000) (hW : W = (w' : Int)) : b1 (cons2 f (cons2 g fun x => some [])) rng2 ρ = some ((List.range w').map fun k : Nat => D.int (1 + (k : Int))) := by
  rw [b1_at [.int 1, .int (W + 1)] (by unfold cons2; unfold b2; rw [hf, hg]; rfl)]
  exact rng_1 h hW
noncomputable def ansD : Option (List Int × Int) → D
  | none => .non
  | some p => bD p
noncomputable def lvD (ys : List (List Int × Int)) (w k : Nat) : D := .lst ((lvM ys w k).map rowD)
noncomputable def spec_raised_to_edge (F : List D → Option D) : Prop := ∀ (a b k : Nat) (z p : List Int × Int), a + b + 2 ≤ 9000 → k ≤ 2 → z.1.length = k + 1 → p.1.length = k → SmP a z → SmP b p → ∀ W : Int, W = k + 1 → F [bD z, .int W, bD p] = some (bD (edgeP p z))
noncomputable def spec_raised (F : List D → Option D) : Prop := ∀ (a b k : Nat) (zs : List (List Int × Int)) (p : List Int × Int), a + b + 2 ≤ 9000 → k ≤ 2 → zs.length ≤ 1000 → (∀ z ∈ zs, SmP a z) → (∀ z ∈ zs, z.1.length = k + 1) → p.1.length = k → SmP b p → ∀ W : Int, W = k + 1 → ∀ Z : D, seqD Z = some (zs.map bD) → F [Z, .int W, bD p] = some (ansD (raisedM p zs))
noncomputable def spec_cancelling_levels (F : List D → Option D) : Prop := ∀ (ys : List (List Int × Int)) (ms : List Int) (n w : Nat), CapY ys ms n → (∀ y ∈ ys, y.1.length = w) → w ≤ 3 → ys.length ≤ 7 → n ≤ 1790 → ∀ W : Int, W = w → ∀ Y : D, seqD Y = some (ys.map bD) → F [Y, .int W] = some (.lst ((List.range (w + 1)).map (lvD ys w)))
noncomputable def optR : Option (List Int) → D
  | none => .non
  | some v => rowD v
noncomputable def spec_first_clash (F : List D → Option D) : Prop := ∀ (n : Nat) (ys : List (List Int × Int)) (L : List (List Int)), n ≤ 900000 → (∀ y ∈ ys, Sm n y.2) → (∀ v ∈ L, v.length ≤ 1000 ∧ ∀ i ∈ v, Sm n i) → ys.length ≤ 1000 → ∀ Y : D, seqD Y = some (ys.map bD) → F [Y, .lst (L.map rowD)] = some (optR (L.find? fun v => decide (wLim ys v < 0)))
noncomputable def spec_point_in (F : List D → Option D) : Prop := ∀ (ys : List (List Int × Int)) (ms : List Int) (n w : Nat), CapY ys ms n → (∀ y ∈ ys, y.1.length = w) → w ≤ 3 → ys.length ≤ 7 → n ≤ 1790 → ∀ W : Int, W = w → ∃ d, F [yD ys, .int W] = some d ∧ ((∃ p, d = bD p ∧ Pt w p ∧ InY ys p ∧ SmP (4 * n + 20) p) ∨ (d = .non ∧ ∀ p, Pt w p → ¬ InY ys p))
noncomputable def spec_clash (F : List D → Option D) : Prop := ∀ (ys : List (List Int × Int)) (ms : List Int) (n w : Nat), CapY ys ms n → (∀ y ∈ ys, y.1.length = w) → w ≤ 3 → ys.length ≤ 7 → n ≤ 1790 → ∀ W : Int, W = w → ∃ d, F [yD ys, .int W] = some d ∧ ((∃ ws, d = rowD ws ∧ isClash ys w ws = true ∧ (∀ i ∈ ws, Sm (4 * n + 7) i)) ∨ (d = .non ∧ ∃ p, Pt w p ∧ InY ys p))
noncomputable def bN (n w : Nat) : Nat → Nat
  | 0 => 1
  | k + 1 => szN n (w - (k + 1)) + bN n w k + 2
theorem bN_le {n w k : Nat} (hw : w ≤ 3) (hk : k ≤ w) : bN n w k ≤ 4 * n + 20 := by
  rcases (show w = 0 ∨ w = 1 ∨ w = 2 ∨ w = 3 by omega) with rfl | rfl | rfl | rfl
  · rw [show k = 0 by omega]; simp only [bN]; omega
  · rcases (show k = 0 ∨ k = 1 by omega) with rfl | rfl <;> simp [bN, szN] <;> omega
  · rcases (show k = 0 ∨ k = 1 ∨ k = 2 by omega) with rfl | rfl | rfl <;> simp [bN, szN] <;> omega
  · rcases (show k = 0 ∨ k = 1 ∨ k = 2 ∨ k = 3 by omega) with rfl | rfl | rfl | rfl <;> simp [bN, szN] <;> omega
noncomputable def invLv (Y : D) (W : Int) (ys : List (List Int × Int)) (w : Nat) (pre : List Nat) (ρ : Rho) : Prop := ∃ x, ρ = [some (.sh Y), some (.sh (.int W)), some (.ow ((List.range (pre.length + 1)).map (lvD ys w))), x]
noncomputable def invP (Y Lv : D) (W : Int) (ys : List (List Int × Int)) (n w : Nat) (pre : List Nat) (ρ : Rho) : Prop := ∃ p x y, ρ = [some (.sh Y), some (.sh (.int W)), some (.sh Lv), some (.sh (bD p)), x, y] ∧ Pt pre.length p ∧ InY (zsF ys (lvM ys w (w - pre.length)) pre.length) p ∧ SmP (bN n w pre.length) p
theorem lv_at {ys : List (List Int × Int)} {w m k : Nat} {W : Int} (h : k < m) (hW : W = k) : ixD (.lst ((List.range m).map (lvD ys w))) (.int W) = some (lvD ys w k) := by
  subst hW
  show atI ((List.range m).map (lvD ys w)) (k : Int) = _
  exact atI_nat (by simp [h])

theorem Yd.cap {w : Nat} {ys : List (List Int × Int)} (h : Yd w ys) : CapY ys (List.replicate ys.length (2 ^ 20)) 41 := cap_yard h.bd
theorem SmP.mono {n m : Nat} {y : List Int × Int} (h : SmP n y) (k : n ≤ m) : SmP m y := ⟨fun i hi => (h.row i hi).mono k, h.lim.mono k, h.len⟩
noncomputable def spec_point_inY (F : List D → Option D) : Prop := ∀ (w : Nat) (ys : List (List Int × Int)), Yd w ys →
  (∃ p, F [yD ys, .int w] = some (bD p) ∧ Pt w p ∧ InY ys p ∧ SmP big p) ∨ (F [yD ys, .int w] = some .non ∧ ∀ p, Pt w p → ¬ InY ys p)
theorem old_point_in {F : List D → Option D} (h : spec_point_in F) : spec_point_inY F := fun w ys Y => by
  obtain ⟨d, e, ⟨p, rfl, h1, h2, h3⟩ | ⟨rfl, h1⟩⟩ := h ys _ 41 w Y.cap Y.len Y.hi (by have := Y.few; omega) (by decide) w rfl
  · exact .inl ⟨p, e, h1, h2, h3.mono (by decide)⟩
  · exact .inr ⟨e, h1⟩
noncomputable def oneMore (ys : List (List Int × Int)) (a : List Int) (l : Int) : List (List Int × Int) := ys ++ [(a.map fun i => -i, l)]
theorem more_len {ys : List (List Int × Int)} {w : Nat} {a : List Int} {l : Int} (hy : ∀ y ∈ ys, y.1.length = w) (ha : a.length = w) : ∀ y ∈ oneMore ys a l, y.1.length = w := fun y hm => by
  rcases List.mem_append.mp hm with h | h
  · exact hy y h
  · rw [List.mem_singleton.mp h]; simp [ha]
theorem more_row {ys : List (List Int × Int)} {w : Nat} {a : List Int} {l d : Int} {vs : List Int} (hl : vs.length = ys.length) (ha : a.length = w) : wRow (oneMore ys a l) (vs ++ [d]) w = List.replicate w 0 ↔ wRow ys vs w = a.map fun i => d * i := by
  have e : ∀ k, k < w → dot (vs ++ [d]) ((oneMore ys a l).map fun y => nth y.1 k) = dot vs (ys.map fun y => nth y.1 k) - d * nth a k := fun k hk => by
    unfold oneMore
    rw [List.map_append]
    show dot (vs ++ [d]) ((ys.map fun y => nth y.1 k) ++ [nth (a.map fun i => -i) k]) = _
    rw [dot_app _ _ _ _ (by simp [hl]), nth_map (by simp), Int.mul_neg]
    omega
  constructor
  · intro h
    apply List.ext_getElem
    · simp [wRow, ha]
    · intro k h1 h2
      have hk : k < w := by simpa [wRow] using h1
      have q : (wRow (oneMore ys a l) (vs ++ [d]) w)[k]'(by rw [wRow_len]; exact hk) = 0 := by simp [h]
      simp only [wRow, List.getElem_map, List.getElem_range] at q ⊢
      rw [e k hk] at q
      have : nth a k = a[k]'(by first | assumption | exact Nat.le_of_lt ‹_› | omega) := by simp [nth, show k < a.length by omega]
      rw [← this]
      omega
  · intro h
    apply List.ext_getElem
    · simp [wRow]
    · intro k h1 h2
      have hk : k < w := by simpa [wRow] using h1
      have q : (wRow ys vs w)[k]'(by rw [wRow_len]; exact hk) = d * nth a k := by simp [h, nth, show k < a.length by omega]
      simp only [wRow, List.getElem_map, List.getElem_range, List.getElem_replicate] at q ⊢
      rw [e k hk]
      omega
theorem more_lim {ys : List (List Int × Int)} {a : List Int} {l d : Int} {vs : List Int} (hl : vs.length = ys.length) : wLim (oneMore ys a l) (vs ++ [d]) = wLim ys vs + d * l := by
  unfold wLim oneMore
  rw [List.map_append]
  exact dot_app _ _ _ _ (by simp [hl])
theorem more_count (ys : List (List Int × Int)) (a : List Int) (l : Int) : (oneMore ys a l).length = ys.length + 1 := by simp [oneMore]
theorem split_wt {m : Nat} {v : List Int} (h : Wt (m + 1) v) : v = v.dropLast ++ [v.getLastD 0] ∧ Wt m v.dropLast ∧ 0 ≤ v.getLastD 0 := by
  have hl := h.len
  have e := split_last (a := v) (by intro z; rw [z] at hl; simp at hl)
  refine ⟨e, ⟨by simp [hl], fun i hi => h.nn i (List.dropLast_subset _ hi)⟩, h.nn _ ?_⟩
  generalize v.getLastD 0 = z at e ⊢
  rw [e]
  simp
theorem zero_point {ys : List (List Int × Int)} {w : Nat} {us : List Int} {p : List Int × Int} (hy : ∀ y ∈ ys, y.1.length = w) (hu : Wt ys.length us) (hr : wRow ys us w = List.replicate w 0) (hp : Pt w p) (hi : InY ys p) : 0 ≤ wLim ys us := by
  have k := weigh (w := w) hy hu.nn hi
  rw [hr, dot_zero] at k
  rcases Int.lt_or_le (wLim ys us) 0 with z | z
  · have := Int.mul_neg_of_neg_of_pos z (show 0 < p.2 by have := hp.div; omega)
    omega
  · exact z
set_option genSizeOf false in
set_option genInjectivity false in
structure Ceil (ys : List (List Int × Int)) (w : Nat) (aim ws : List Int) (d : Int) : Prop where
  wt : Wt ys.length ws
  pos : 0 < d
  row : wRow ys ws w = aim.map fun i => d * i
section
variable {ys : List (List Int × Int)} {w : Nat} {aim : List Int} {L : List (List Int)}
theorem ceil_of (ha : aim.length = w) (hL : Lv (ys.length + 1) (colsF (oneMore ys aim 0) w w) L) {v : List Int} (hv : v ∈ L) (hd : 0 < v.getLastD 0) : Ceil ys w aim v.dropLast (v.getLastD 0) := by
  obtain ⟨e, h1, _⟩ := split_wt (hL.cn v hv).wt
  refine ⟨h1, hd, ?_⟩
  have z := wRow_cn (hL.cn v hv).zero
  rw [e] at z
  exact (more_row h1.len ha).mp z
theorem ceil_cn {us : List Int} {e : Int} (ha : aim.length = w) (h : Ceil ys w aim us e) : Cn (ys.length + 1) (colsF (oneMore ys aim 0) w w) (us ++ [e]) := by
  refine ⟨⟨by simp [h.wt.len], fun i hi => ?_⟩, cn_wRow ((more_row h.wt.len ha).mpr h.row)⟩
  rcases List.mem_append.mp hi with q | q
  · exact h.wt.nn i q
  · have := h.pos
    rw [List.mem_singleton.mp q]
    omega
theorem dotC_zero : ∀ (a : List Int) (n : Nat), dot a (List.replicate n 0) = 0
  | [], n => by cases n <;> rfl
  | a :: as, 0 => rfl
  | a :: as, n + 1 => by
    show a * 0 + dot as (List.replicate n 0) = 0
    rw [dotC_zero as n]
    omega
theorem no_ceil (ha : aim.length = w) (hL : Lv (ys.length + 1) (colsF (oneMore ys aim 0) w w) L) (h : ∀ v ∈ L, ¬ 0 < v.getLastD 0) {us : List Int} {e : Int} : ¬ Ceil ys w aim us e := fun c => by
  obtain ⟨v, hv, _, d⟩ := hL.pos (c := List.replicate ys.length 0 ++ [1]) (by simp) _ (ceil_cn ha c) (by
    rw [dot_app _ _ _ _ (by simp [c.wt.len]), dotC_zero]
    have := c.pos
    omega)
  obtain ⟨e1, h1, h2⟩ := split_wt (hL.cn v hv).wt
  rw [e1, dot_app _ _ _ _ (by simp [h1.len]), dotC_zero] at d
  exact h v hv (by first | assumption | exact Nat.le_of_lt ‹_› | omega)
theorem topmost_pt (hy : ∀ y ∈ ys, y.1.length = w) (ha : aim.length = w) (hL : Lv (ys.length + 1) (colsF (oneMore ys aim 0) w w) L) {p : List Int × Int} (hp : Pt w p) (hi : InY ys p) {ws : List Int} {d : Int} (hc : Ceil ys w aim ws d)
    (low : ∀ v ∈ L, 0 < v.getLastD 0 → wLim ys ws * v.getLastD 0 ≤ wLim ys v.dropLast * d) : ∃ q, Pt w q ∧ InY (oneMore ys (aim.map fun i => i * d) (-wLim ys ws)) q := by
  have hb := more_len (l := -wLim ys ws) hy (show (aim.map fun i => i * d).length = w by simp [ha])
  rcases point_or_clash hb with z | ⟨us', hcl⟩
  · exact z
  · exfalso
    obtain ⟨h1, h2, _, h4, h5⟩ := clash_parts hcl
    rw [more_count] at h1
    obtain ⟨e, wu, he⟩ := split_wt ⟨h1, h2⟩
    generalize us'.dropLast = us at e wu
    generalize us'.getLastD 0 = x at e he
    subst e
    rw [more_row wu.len (by simp [ha])] at h4
    rw [more_lim wu.len] at h5
    rcases Int.lt_or_le 0 x with q | q
    · have c' : Ceil ys w aim us (x * d) := ⟨wu, Int.mul_pos q hc.pos, by
        rw [h4, List.map_map]
        refine List.map_congr_left fun i _ => ?_
        show x * (i * d) = x * d * i
        rw [Int.mul_assoc, Int.mul_comm i]⟩
      obtain ⟨v, hv, _, dd⟩ := hL.neg (c := (ys.map fun y => y.2 * d) ++ [-wLim ys ws]) (by simp) _ _ (Nat.le_refl _) (ceil_cn ha c') (by
        rw [dot_app _ _ _ _ (by simp [wu.len]), dot_lim]
        have := Int.mul_neg_of_neg_of_pos h5 hc.pos
        rw [Int.add_mul] at this
        have e : x * d * -wLim ys ws = x * -wLim ys ws * d := by rw [Int.mul_assoc, Int.mul_comm d, Int.mul_assoc]
        omega)
      obtain ⟨e1, g1, g2⟩ := split_wt (hL.cn v hv).wt
      have lo := low v hv
      have zr := wRow_cn (hL.cn v hv).zero
      generalize v.dropLast = vs at e1 g1 lo
      generalize v.getLastD 0 = y at e1 g2 lo
      subst e1
      rw [dot_app _ _ _ _ (by simp [g1.len]), dot_lim, Int.mul_neg, Int.mul_comm y] at dd
      rcases Int.lt_or_le 0 y with r | r
      · have := lo r
        omega
      · have y0 : y = 0 := by omega
        subst y0
        rw [more_row g1.len ha] at zr
        rw [show (aim.map fun i => 0 * i) = List.replicate w 0 by rw [← ha]; simp [List.map_const']] at zr
        have := zero_point hy g1 zr hp hi
        have := Int.mul_nonneg this (Int.le_of_lt hc.pos)
        simp at dd
        omega
    · have x0 : x = 0 := by omega
      subst x0
      rw [show ((aim.map fun i => i * d).map fun i => 0 * i) = List.replicate w 0 by rw [← ha, List.map_map, List.eq_replicate_iff]; exact ⟨by simp, fun b hb => by obtain ⟨i, _, rfl⟩ := List.mem_map.mp hb; simp⟩] at h4
      have := zero_point hy wu h4 hp hi
      omega
theorem dot_negL (a p : List Int) : dot (a.map fun i => -i) p = -dot a p := by
  have := dot_scale (-1) a p
  rw [show (a.map fun i => -1 * i) = a.map fun i => -i from List.map_congr_left fun i _ => by omega] at this
  omega
theorem top_good (hy : ∀ y ∈ ys, y.1.length = w) (ha : aim.length = w) {ws : List Int} {d : Int} (hc : Ceil ys w aim ws d) {q : List Int × Int} (hq : Pt w q) (hi : InY (oneMore ys (aim.map fun i => i * d) (-wLim ys ws)) q) : goodTop ys w aim q ws d = true := by
  have iy : InY ys q := fun y hm => hi y (List.mem_append_left _ hm)
  have k := hi _ (List.mem_append_right _ (List.mem_singleton.mpr rfl))
  have k : dot ((aim.map fun i => i * d).map fun i => -i) q.1 ≤ -wLim ys ws * q.2 := k
  rw [dot_negL, show (aim.map fun i => i * d) = aim.map fun i => d * i from List.map_congr_left fun i _ => Int.mul_comm _ _, dot_scale, Int.neg_mul] at k
  have u := weigh (w := w) hy hc.wt.nn iy
  rw [hc.row, dot_scale] at u
  unfold goodTop
  simp only [Bool.and_eq_true, decide_eq_true_eq, List.all_eq_true]
  have := hc.pos
  exact ⟨⟨⟨⟨⟨⟨hq.len, hq.div⟩, fun y hm => decide_eq_true (iy y hm)⟩, hc.wt.len, hc.wt.nn⟩, by omega⟩, hc.row⟩, by omega⟩
noncomputable def flatY (ys : List (List Int × Int)) : List (List Int × Int) := ys.map fun y => (y.1, 0)
theorem way_point (hy : ∀ y ∈ ys, y.1.length = w) (ha : aim.length = w) (hn : ∀ us e, ¬ Ceil ys w aim us e) : ∃ q, Pt w q ∧ InY (oneMore (flatY ys) aim (-1)) q := by
  have hf : ∀ y ∈ flatY ys, y.1.length = w := fun y hm => by
    obtain ⟨z, hz, rfl⟩ := List.mem_map.mp hm
    exact hy z hz
  rcases point_or_clash (more_len (l := -1) hf ha) with z | ⟨us', hcl⟩
  · exact z
  · exfalso
    obtain ⟨h1, h2, _, h4, h5⟩ := clash_parts hcl
    rw [more_count] at h1
    obtain ⟨e, wu, he⟩ := split_wt ⟨h1, h2⟩
    generalize us'.dropLast = us at e wu
    generalize us'.getLastD 0 = x at e he
    subst e
    rw [more_row wu.len ha] at h4
    rw [more_lim wu.len] at h5
    have l0 : wLim (flatY ys) us = 0 := by
      have := dot_lim 0 us ys
      rw [Int.mul_zero] at this
      unfold wLim flatY
      rw [List.map_map]
      simp only [Int.mul_zero] at this
      exact this
    have wu' : Wt ys.length us := by simpa [flatY] using wu
    refine hn us x ⟨wu', by omega, ?_⟩
    rw [← h4]
    unfold wRow flatY
    refine List.map_congr_left fun k _ => ?_
    rw [List.map_map]
    rfl
theorem way_good {p q : List Int × Int} (hp : Pt w p) (hi : InY ys p) (hq : Pt w q) (h : InY (oneMore (flatY ys) aim (-1)) q) : goodEnd ys w aim p q.1 = true := by
  have k := h _ (List.mem_append_right _ (List.mem_singleton.mpr rfl))
  have k : dot (aim.map fun i => -i) q.1 ≤ -1 * q.2 := k
  rw [dot_negL] at k
  have := hq.div
  unfold goodEnd
  simp only [Bool.and_eq_true, decide_eq_true_eq, List.all_eq_true]
  refine ⟨⟨⟨⟨⟨hp.len, hp.div⟩, fun y hm => decide_eq_true (hi y hm)⟩, hq.len⟩, fun y hm => ?_⟩, by omega⟩
  have := h (y.1, 0) (List.mem_append_left _ (List.mem_map.mpr ⟨y, hm, rfl⟩))
  simpa using this
end

theorem more_cap {w : Nat} {ys : List (List Int × Int)} {a : List Int} {l : Int} {B : Nat} (h : ∀ y ∈ ys, Bd w y) (hB : 20 ≤ B) (ha : ∀ i ∈ a, Sm B i) (hl : Sm B l) : CapY (oneMore ys a l) (List.replicate ys.length (2 ^ 20) ++ [2 ^ B]) (B + 21) :=
  cap_more h hB (fun i hi => by obtain ⟨j, hj, rfl⟩ := List.mem_map.mp hi; exact (ha j hj).neg) hl
theorem add_more {ys : List (List Int × Int)} {a : List Int} {l : Int} (h : ys.length ≤ 1000) : addD (yD ys) (.tup [.tup [rowD (a.map fun i => -i), .int l]]) = some (yD (oneMore ys a l)) := by
  show fit _ (D.tup (ys.map bD ++ [bD (a.map (fun i => -i), l)])) = some (D.tup ((ys ++ [(a.map (fun i => -i), l)]).map bD))
  rw [List.map_append]
  exact fitOk _ (by simp; omega)
noncomputable def ceilL (ys : List (List Int × Int)) (w : Nat) (aim : List Int) : List (List Int × Int) := ((lvM (oneMore ys aim 0) w w).filter fun v => decide (0 < v.getLastD 0)).map fun v => (v.dropLast, v.getLastD 0)
noncomputable def lowStep (ys : List (List Int × Int)) (lo x : List Int × Int) : List Int × Int := if wLim ys x.1 * lo.2 < wLim ys lo.1 * x.2 then x else lo
noncomputable def lowC (ys : List (List Int × Int)) (c : List Int × Int) (cs : List (List Int × Int)) : List Int × Int := cs.foldl (lowStep ys) c
theorem low_ok (ys : List (List Int × Int)) : ∀ (cs : List (List Int × Int)) (c : List Int × Int), 0 < c.2 → (∀ x ∈ cs, 0 < x.2) → (lowC ys c cs = c ∨ lowC ys c cs ∈ cs) ∧ wLim ys (lowC ys c cs).1 * c.2 ≤ wLim ys c.1 * (lowC ys c cs).2 ∧ ∀ x ∈ cs, wLim ys (lowC ys c cs).1 * x.2 ≤ wLim ys x.1 * (lowC ys c cs).2
  | [], c, _, _ => ⟨.inl rfl, Int.le_refl _, fun x hx => by cases hx⟩
  | y :: cs, c, hc, hx => by
    have hy := hx y List.mem_cons_self
    have hcs : ∀ x ∈ cs, 0 < x.2 := fun x h => hx x (List.mem_cons_of_mem _ h)
    have e : lowC ys c (y :: cs) = lowC ys (lowStep ys c y) cs := rfl
    rw [e]
    have s : (lowStep ys c y = c ∨ lowStep ys c y = y) ∧ 0 < (lowStep ys c y).2 ∧ wLim ys (lowStep ys c y).1 * c.2 ≤ wLim ys c.1 * (lowStep ys c y).2 ∧ wLim ys (lowStep ys c y).1 * y.2 ≤ wLim ys y.1 * (lowStep ys c y).2 := by
      unfold lowStep
      split
      · rename_i h
        exact ⟨.inr rfl, hy, Int.le_of_lt h, Int.le_refl _⟩
      · rename_i h
        exact ⟨.inl rfl, hc, Int.le_refl _, by omega⟩
    obtain ⟨s1, s2, s3, s4⟩ := s
    obtain ⟨i1, i2, i3⟩ := low_ok ys cs (lowStep ys c y) s2 hcs
    have lp : 0 < (lowC ys (lowStep ys c y) cs).2 := by
      rcases i1 with q | q
      · rw [q]; exact s2
      · exact hcs _ q
    generalize lowC ys (lowStep ys c y) cs = lo at i1 i2 i3 lp
    generalize lowStep ys c y = m at s1 s2 s3 s4 i1 i2
    refine ⟨?_, ?_, fun x h => ?_⟩
    · rcases i1 with q | q
      · rcases s1 with z | z
        · exact .inl (q.trans z)
        · exact .inr (by rw [q, z]; exact List.mem_cons_self)
      · exact .inr (List.mem_cons_of_mem _ q)
    · exact fr_trans (a := (wLim ys lo.1, lo.2)) (b := (wLim ys m.1, m.2)) (c := (wLim ys c.1, c.2)) lp s2 hc i2 s3
    · rcases List.mem_cons.mp h with rfl | h
      · exact fr_trans (a := (wLim ys lo.1, lo.2)) (b := (wLim ys m.1, m.2)) (c := (wLim ys x.1, x.2)) lp s2 hy i2 s4
      · exact i3 x h
noncomputable def spec_turned (F : List D → Option D) : Prop := ∀ a : List Int, a.length ≤ 1000 → F [rowD a] = some (rowD (a.map fun i => -i))
noncomputable def spec_ceilings (F : List D → Option D) : Prop := ∀ (w B : Nat) (ys : List (List Int × Int)) (aim : List Int), Yd w ys → aim.length = w → (∀ i ∈ aim, Sm B i) → 20 ≤ B → B + 21 ≤ 1790 → ∀ W : Int, W = w → F [yD ys, .int W, rowD aim] = some (.lst ((ceilL ys w aim).map bD))
noncomputable def spec_lowest_ceiling (F : List D → Option D) : Prop := ∀ (n : Nat) (ys : List (List Int × Int)) (c : List Int × Int) (cs : List (List Int × Int)), n ≤ 400000 → (∀ y ∈ ys, Sm n y.2) → ys.length ≤ 1000 → (∀ x ∈ c :: cs, SmP n x) → F [yD ys, .lst ((c :: cs).map bD)] = some (bD (lowC ys c (c :: cs)))
noncomputable def spec_point_at_least (F : List D → Option D) : Prop := ∀ (w B : Nat) (ys : List (List Int × Int)) (a : List Int) (l : Int), Yd w ys → a.length = w → (∀ i ∈ a, Sm B i) → Sm B l → 20 ≤ B → B + 21 ≤ 1790 → ∀ W : Int, W = w → ∃ d, F [yD ys, .int W, rowD a, .int l] = some d ∧
  ((∃ p, d = bD p ∧ Pt w p ∧ InY (oneMore ys a (-l)) p ∧ SmP (4 * (B + 21) + 20) p) ∨ (d = .non ∧ ∀ p, Pt w p → ¬ InY (oneMore ys a (-l)) p))
noncomputable def spec_rising_way (F : List D → Option D) : Prop := ∀ (w B : Nat) (ys : List (List Int × Int)) (aim : List Int), Yd w ys → aim.length = w → (∀ i ∈ aim, Sm B i) → 20 ≤ B → B + 21 ≤ 1790 → (∀ us e, ¬ Ceil ys w aim us e) → ∀ W : Int, W = w → ∃ q : List Int × Int, F [yD ys, .int W, rowD aim] = some (rowD q.1) ∧ Pt w q ∧ InY (oneMore (flatY ys) aim (-1)) q ∧ SmP (4 * (B + 21) + 20) q
noncomputable def TopA (ys : List (List Int × Int)) (w : Nat) (aim : List Int) (d : D) : Prop :=
  (∃ ws, d = .tup [.str "clash", rowD ws] ∧ isClash ys w ws = true ∧ (∀ i ∈ ws, Sm 200 i)) ∨
  (∃ p ws e, d = .tup [.str "top", bD p, rowD ws, .int e] ∧ goodTop ys w aim p ws e = true ∧ SmP 7000 p ∧ (∀ i ∈ ws, Sm 1400 i) ∧ Sm 1400 e) ∨
  (∃ p r, d = .tup [.str "endless", bD p, rowD r] ∧ goodEnd ys w aim p r = true ∧ SmP 200 p ∧ (∀ i ∈ r, Sm 1400 i))
noncomputable def spec_top (F : List D → Option D) : Prop := ∀ (w : Nat) (ys : List (List Int × Int)) (aim : List Int), Yd w ys → aim.length = w → (∀ i ∈ aim, Sm 320 i) → ∀ W : Int, W = w → ∃ d, F [yD ys, .int W, rowD aim] = some d ∧ TopA ys w aim d
theorem flat_yd {w : Nat} {ys : List (List Int × Int)} (h : Yd w ys) : Yd w (flatY ys) := ⟨h.lo, h.hi, by simpa [flatY] using h.few, fun y hm => by
  obtain ⟨z, hz, rfl⟩ := List.mem_map.mp hm
  have := h.bd z hz
  exact ⟨this.len, this.row, show reach 0 = true by decide⟩⟩
theorem ceil_mem {ys : List (List Int × Int)} {w : Nat} {aim : List Int} (ha : aim.length = w) {c : List Int × Int} (h : c ∈ ceilL ys w aim) : Ceil ys w aim c.1 c.2 ∧ ∃ v ∈ lvM (oneMore ys aim 0) w w, c = (v.dropLast, v.getLastD 0) := by
  obtain ⟨v, hv, rfl⟩ := List.mem_map.mp h
  obtain ⟨h1, h2⟩ := List.mem_filter.mp hv
  have L := lv_ok (oneMore ys aim 0) w w
  rw [more_count] at L
  exact ⟨ceil_of ha L h1 (of_decide_eq_true h2), v, h1, rfl⟩
theorem ceil_sm {ys : List (List Int × Int)} {w B : Nat} {aim : List Int} (h : Yd w ys) (ha : ∀ i ∈ aim, Sm B i) (hB : 20 ≤ B) {c : List Int × Int} (hc : c ∈ ceilL ys w aim) : SmP (4 * (B + 21) + 7) c := by
  obtain ⟨v, hv, rfl⟩ := List.mem_map.mp hc
  obtain ⟨h1, h2⟩ := List.mem_filter.mp hv
  have cp := more_cap (l := 0) h.bd hB ha (Sm.lit (by simp; exact Nat.pow_pos (by decide)))
  have s := cp.wt h1
  have s3 := sz_le3 (B + 21) h.hi
  have L := ((lv_ok (oneMore ys aim 0) w w).cn v h1).wt
  rw [more_count] at L
  have few := h.few
  obtain ⟨e, wl, _⟩ := split_wt L
  refine ⟨fun i hi => (s i (List.dropLast_subset _ hi)).mono s3, (s _ ?_).mono s3, by have := wl.len; show v.dropLast.length ≤ 1000; omega⟩
  show v.getLastD 0 ∈ v
  generalize v.getLastD 0 = x at e ⊢
  rw [e]
  simp
theorem no_ceilL {ys : List (List Int × Int)} {w : Nat} {aim : List Int} (ha : aim.length = w) (h : ceilL ys w aim = []) (us : List Int) (e : Int) : ¬ Ceil ys w aim us e := by
  have L := lv_ok (oneMore ys aim 0) w w
  rw [more_count] at L
  refine no_ceil ha L fun v hv hp => ?_
  have : (v.dropLast, v.getLastD 0) ∈ ceilL ys w aim := List.mem_map.mpr ⟨v, List.mem_filter.mpr ⟨hv, decide_eq_true hp⟩, rfl⟩
  rw [h] at this
  cases this
theorem low_all {ys : List (List Int × Int)} {w : Nat} {aim : List Int} (ha : aim.length = w) {c : List Int × Int} {cs : List (List Int × Int)} (h : ceilL ys w aim = c :: cs) : lowC ys c (c :: cs) ∈ ceilL ys w aim ∧ ∀ v ∈ lvM (oneMore ys aim 0) w w, 0 < v.getLastD 0 → wLim ys (lowC ys c (c :: cs)).1 * v.getLastD 0 ≤ wLim ys v.dropLast * (lowC ys c (c :: cs)).2 := by
  have pos : ∀ x ∈ c :: cs, 0 < x.2 := fun x hx => by
    rw [← h] at hx
    exact (ceil_mem ha hx).1.pos
  obtain ⟨i1, _, i3⟩ := low_ok ys (c :: cs) c (pos c List.mem_cons_self) pos
  refine ⟨?_, fun v hv hp => ?_⟩
  · rw [h]
    rcases i1 with q | q
    · rw [q]; exact List.mem_cons_self
    · exact q
  · have : (v.dropLast, v.getLastD 0) ∈ ceilL ys w aim := List.mem_map.mpr ⟨v, List.mem_filter.mpr ⟨hv, decide_eq_true hp⟩, rfl⟩
    rw [h] at this
    exact i3 _ this
theorem lim_sm' {a b : Nat} {ys : List (List Int × Int)} {ws : List Int} (hy : ∀ y ∈ ys, Sm a y.2) (hw : ∀ i ∈ ws, Sm b i) (hl : ws.length ≤ 1000) : Sm (b + a + 10) (wLim ys ws) := dot_sm hw (fun j hj => by obtain ⟨y, hm, rfl⟩ := List.mem_map.mp hj; exact hy y hm) hl
noncomputable def invLow (Y F0 : D) (ys : List (List Int × Int)) (c : List Int × Int) (pre : List (List Int × Int)) (ρ : Rho) : Prop := ∃ x, ρ = [some (.sh Y), some (.sh F0), some (.sh (bD (lowC ys c pre))), x]
theorem low_snoc (ys : List (List Int × Int)) (c : List Int × Int) (pre : List (List Int × Int)) (x : List Int × Int) : lowC ys c (pre ++ [x]) = lowStep ys (lowC ys c pre) x := by
  unfold lowC
  rw [List.foldl_append]
  rfl

noncomputable def spec_topY (F : List D → Option D) : Prop := ∀ (w : Nat) (ys : List (List Int × Int)) (aim : List Int), Yd w ys → aim.length = w → (∀ i ∈ aim, reach i = true) →
  (∃ ws, F [yD ys, .int w, rowD aim] = some (.tup [.str "clash", rowD ws]) ∧ isClash ys w ws = true ∧ (∀ i ∈ ws, Sm big i)) ∨
  (∃ p ws d, F [yD ys, .int w, rowD aim] = some (.tup [.str "top", bD p, rowD ws, .int d]) ∧ goodTop ys w aim p ws d = true ∧ SmP big p ∧ (∀ i ∈ ws, Sm big i) ∧ Sm big d) ∨
  (∃ p r, F [yD ys, .int w, rowD aim] = some (.tup [.str "endless", bD p, rowD r]) ∧ goodEnd ys w aim p r = true ∧ SmP big p ∧ (∀ i ∈ r, Sm big i))
theorem old_top {F : List D → Option D} (h : spec_top F) : spec_topY F := fun w ys aim Y ha hr => by
  obtain ⟨d, e, t⟩ := h w ys aim Y ha (fun i hi => (Sm.of_reach (hr i hi)).mono (by decide)) w rfl
  rcases t with ⟨ws, rfl, h1, h2⟩ | ⟨p, ws, x, rfl, h1, h2, h3, h4⟩ | ⟨p, r, rfl, h1, h2, h3⟩
  · exact .inl ⟨ws, e, h1, fun i hi => (h2 i hi).mono (by decide)⟩
  · exact .inr (.inl ⟨p, ws, x, e, h1, h2.mono (by decide), fun i hi => (h3 i hi).mono (by decide), h4.mono (by decide)⟩)
  · exact .inr (.inr ⟨p, r, e, h1, h2.mono (by decide), fun i hi => (h3 i hi).mono (by decide)⟩)
theorem str_ct : (("clash" : Str) == ("top" : Str)) = false := by decide +kernel
theorem str_cc : (("clash" : Str) == ("clash" : Str)) = true := by decide +kernel
theorem str_tc : (("top" : Str) == ("clash" : Str)) = false := by decide +kernel
theorem str_tt : (("top" : Str) == ("top" : Str)) = true := by decide +kernel
theorem str_ec : (("endless" : Str) == ("clash" : Str)) = false := by decide +kernel
theorem str_et : (("endless" : Str) == ("top" : Str)) = false := by decide +kernel
theorem str_ee : (("endless" : Str) == ("endless" : Str)) = true := by decide +kernel
theorem str_te : (("top" : Str) == ("endless" : Str)) = false := by decide +kernel
theorem neOp_tnil (ds : List D) : neOp (.tup ds) (.tup []) = some (.bl (!ds.isEmpty)) := by
  unfold neOp
  have e : min (dep (.tup ds)) (dep (.tup [])) ≤ 60 := by simp only [dep, deps]; omega
  rw [if_pos e]
  cases ds <;> rfl
theorem ne_ys {ys : List (List Int × Int)} (h : ys ≠ []) : neOp (.tup (ys.map bD)) (.tup []) = some (.bl true) := by
  rw [neOp_tnil]
  cases ys with
  | nil => exact absurd rfl h
  | cons y ys => rfl
theorem atI_ys {ys : List (List Int × Int)} {i : Int} (h0 : 0 ≤ i) (h1 : i < ys.length) : ∃ y ∈ ys, atI (ys.map bD) i = some (bD y) := by
  obtain ⟨x, hx, e⟩ := atI_some (xs := ys.map bD) h0 (by simpa using h1)
  obtain ⟨y, hy, rfl⟩ := List.mem_map.mp hx
  exact ⟨y, hy, e⟩

theorem top_point {ys : List (List Int × Int)} {w : Nat} {aim : List Int} {p : List Int × Int} {ws : List Int} {d : Int} (h : goodTop ys w aim p ws d = true) : Pt w p ∧ InY ys p := by
  unfold goodTop at h
  simp only [Bool.and_eq_true, decide_eq_true_eq] at h
  exact ⟨⟨h.1.1.1.1.1.1, h.1.1.1.1.1.2⟩, inY_all.mp h.1.1.1.1.2⟩
noncomputable def Fol (ys : List (List Int × Int)) (w : Nat) (b : List Int × Int) : Prop := ∀ p, Pt w p → InY ys p → dot b.1 p.1 ≤ b.2 * p.2
noncomputable def med : Nat := 320
noncomputable def spec_follows (F : List D → Option D) : Prop := ∀ (w : Nat) (ys : List (List Int × Int)) (b : List Int × Int), Yd w ys → b.1.length = w → SmP med b → ∃ v, F [yD ys, .int w, bD b] = some (.bl v) ∧ (v = true ↔ Fol ys w b)
noncomputable def spec_reasonsY (F : List D → Option D) : Prop := ∀ (w : Nat) (ys : List (List Int × Int)) (b : List Int × Int), Yd w ys → Bd w b → (∃ p, Pt w p ∧ InY ys p) →
  (∃ ws d, F [yD ys, .int w, bD b] = some (.tup [rowD ws, .int d]) ∧ goodReason ys w b ws d = true ∧ (∀ i ∈ ws, Sm big i) ∧ Sm big d) ∨ (F [yD ys, .int w, bD b] = some .non ∧ ¬ Fol ys w b)
noncomputable def spec_againstY (F : List D → Option D) : Prop := ∀ (w : Nat) (ys : List (List Int × Int)) (b : List Int × Int), Yd w ys → Bd w b → (∃ p, Pt w p ∧ InY ys p) →
  (∃ p, F [yD ys, .int w, bD b] = some (bD p) ∧ Pt w p ∧ InY ys p ∧ SmP big p ∧ b.2 * p.2 < dot b.1 p.1) ∨ (F [yD ys, .int w, bD b] = some .non ∧ Fol ys w b)
theorem reason_parts {ys : List (List Int × Int)} {w : Nat} {b : List Int × Int} {ws : List Int} {d : Int} (h : goodReason ys w b ws d = true) : ws.length = ys.length ∧ (∀ i ∈ ws, 0 ≤ i) ∧ 1 ≤ d ∧ wRow ys ws w = (b.1.map fun i => d * i) ∧ wLim ys ws ≤ d * b.2 := by
  unfold goodReason at h
  simp only [Bool.and_eq_true, decide_eq_true_eq, List.all_eq_true] at h
  exact ⟨h.1.1.1.1, h.1.1.1.2, h.1.1.2, h.1.2, h.2⟩
theorem reason_fol {ys : List (List Int × Int)} {w : Nat} {b : List Int × Int} {ws : List Int} {d : Int} (hy : ∀ y ∈ ys, y.1.length = w) (h : goodReason ys w b ws d = true) : Fol ys w b := by
  obtain ⟨_, h2, h3, h4, h5⟩ := reason_parts h
  intro p hp hi
  have := weigh hy h2 hi
  rw [h4, dot_scale] at this
  have hd := hp.div
  have h6 := Int.mul_le_mul_of_nonneg_right h5 (show 0 ≤ p.2 by omega)
  rw [Int.mul_assoc] at h6
  exact Int.le_of_mul_le_mul_left (Int.le_trans this h6) (by first | assumption | exact Nat.le_of_lt ‹_› | omega)

noncomputable def carrySt (b p : List Int × Int) (r : List Int) : Int := if 0 > (b.2 * p.2 - dot b.1 p.1) / (p.2 * dot b.1 r) + 1 then 0 else (b.2 * p.2 - dot b.1 p.1) / (p.2 * dot b.1 r) + 1
noncomputable def carryP (b p : List Int × Int) (r : List Int) : List Int × Int := (List.zipWith (fun i j => i + carrySt b p r * p.2 * j) p.1 r, p.2)
theorem dot_carry (c : Int) : ∀ a p r : List Int, p.length = r.length → dot a (List.zipWith (fun i j => i + c * j) p r) = dot a p + c * dot a r
  | [], p, r, _ => by simp [dot]
  | a :: as, [], [], _ => by simp [dot]
  | a :: as, x :: p, y :: r, h => by
    have ih := dot_carry c as p r (by simpa using h)
    show a * (x + c * y) + dot as (List.zipWith (fun i j => i + c * j) p r) = (a * x + dot as p) + c * (a * y + dot as r)
    rw [ih, Int.mul_add, Int.mul_add, Int.mul_left_comm]
    omega
theorem carry_ok {ys : List (List Int × Int)} {w : Nat} {b p : List Int × Int} {r : List Int} (hp : Pt w p) (hi : InY ys p) (hr : r.length = w) (hd : ∀ y ∈ ys, dot y.1 r ≤ 0) (hb : 0 < dot b.1 r) : Pt w (carryP b p r) ∧ InY ys (carryP b p r) ∧ b.2 * (carryP b p r).2 < dot b.1 (carryP b p r).1 := by
  have pd := hp.div
  have hD : 0 < p.2 * dot b.1 r := Int.mul_pos (by first | assumption | exact Nat.le_of_lt ‹_› | omega) hb
  have st0 : 0 ≤ carrySt b p r := by
    unfold carrySt
    split <;> omega
  have hl : p.1.length = r.length := by rw [hp.len, hr]
  refine ⟨⟨by simp [carryP, hp.len, hr], pd⟩, fun y hm => ?_, ?_⟩
  · show dot y.1 (List.zipWith (fun i j => i + carrySt b p r * p.2 * j) p.1 r) ≤ y.2 * p.2
    rw [dot_carry _ _ _ _ hl]
    have h1 := hi y hm
    have h2 := Int.mul_nonneg (Int.mul_nonneg st0 (show 0 ≤ p.2 by omega)) (show 0 ≤ -dot y.1 r by have := hd y hm; omega)
    rw [Int.mul_neg] at h2
    omega
  · show b.2 * p.2 < dot b.1 (List.zipWith (fun i j => i + carrySt b p r * p.2 * j) p.1 r)
    rw [dot_carry _ _ _ _ hl, Int.mul_assoc]
    unfold carrySt
    generalize hlf : b.2 * p.2 - dot b.1 p.1 = left
    generalize p.2 * dot b.1 r = D at hD
    have e := Int.mul_ediv_add_emod left D
    have m1 := Int.emod_lt_of_pos left hD
    have m0 := Int.emod_nonneg left (show D ≠ 0 by omega)
    split
    · rename_i h
      have : left / D ≤ -2 := by omega
      have := Int.mul_le_mul_of_nonneg_left this (Int.le_of_lt hD)
      omega
    · rw [Int.add_mul, Int.one_mul, Int.mul_comm (left / D)]
      omega
theorem top_all {ys : List (List Int × Int)} {w : Nat} {aim : List Int} {p : List Int × Int} {ws : List Int} {d : Int} (h : goodTop ys w aim p ws d = true) : Pt w p ∧ InY ys p ∧ ws.length = ys.length ∧ (∀ i ∈ ws, 0 ≤ i) ∧ 1 ≤ d ∧ wRow ys ws w = (aim.map fun i => d * i) ∧ wLim ys ws * p.2 = d * dot aim p.1 := by
  unfold goodTop at h
  simp only [Bool.and_eq_true, decide_eq_true_eq, List.all_eq_true] at h
  exact ⟨⟨h.1.1.1.1.1.1, h.1.1.1.1.1.2⟩, fun y hm => of_decide_eq_true (h.1.1.1.1.2 y hm), h.1.1.1.2.1, h.1.1.1.2.2, h.1.1.2, h.1.2, h.2⟩
theorem end_all {ys : List (List Int × Int)} {w : Nat} {aim : List Int} {p : List Int × Int} {r : List Int} (h : goodEnd ys w aim p r = true) : Pt w p ∧ InY ys p ∧ r.length = w ∧ (∀ y ∈ ys, dot y.1 r ≤ 0) ∧ 0 < dot aim r := by
  unfold goodEnd at h
  simp only [Bool.and_eq_true, decide_eq_true_eq, List.all_eq_true] at h
  exact ⟨⟨h.1.1.1.1.1, h.1.1.1.1.2⟩, fun y hm => of_decide_eq_true (h.1.1.1.2 y hm), h.1.1.2, h.1.2, h.2⟩
theorem top_fol {ys : List (List Int × Int)} {w : Nat} {b p : List Int × Int} {ws : List Int} {d : Int} (hy : ∀ y ∈ ys, y.1.length = w) (h : goodTop ys w b.1 p ws d = true) (hk : dot b.1 p.1 ≤ b.2 * p.2) : wLim ys ws ≤ d * b.2 := by
  obtain ⟨h1, h2, h3, h4, h5, h6, h7⟩ := top_all h
  have pd := h1.div
  have := Int.mul_le_mul_of_nonneg_left hk (show 0 ≤ d by omega)
  rw [← h7, ← Int.mul_assoc] at this
  exact Int.le_of_mul_le_mul_right this (by first | assumption | exact Nat.le_of_lt ‹_› | omega)
theorem top_reason {ys : List (List Int × Int)} {w : Nat} {b p : List Int × Int} {ws : List Int} {d : Int} (h : goodTop ys w b.1 p ws d = true) (hk : wLim ys ws ≤ d * b.2) : goodReason ys w b ws d = true := by
  obtain ⟨h1, h2, h3, h4, h5, h6, h7⟩ := top_all h
  unfold goodReason
  simp only [Bool.and_eq_true, decide_eq_true_eq, List.all_eq_true]
  exact ⟨⟨⟨⟨h3, h4⟩, h5⟩, h6⟩, hk⟩
theorem top_over {ys : List (List Int × Int)} {w : Nat} {b p : List Int × Int} {ws : List Int} {d : Int} (h : goodTop ys w b.1 p ws d = true) (hk : d * b.2 < wLim ys ws) : b.2 * p.2 < dot b.1 p.1 := by
  obtain ⟨h1, h2, h3, h4, h5, h6, h7⟩ := top_all h
  have pd := h1.div
  have := Int.mul_lt_mul_of_pos_right hk (show 0 < p.2 by omega)
  rw [h7, Int.mul_assoc] at this
  exact Int.lt_of_mul_lt_mul_left this (by first | assumption | exact Nat.le_of_lt ‹_› | omega)
theorem div_sm {n : Nat} {x d : Int} (h : Sm n x) (hd : 0 < d) : Sm n (x / d) := by
  refine h.of_le ?_
  have e := Int.mul_ediv_add_emod x d
  have m1 := Int.emod_lt_of_pos x hd
  have m0 := Int.emod_nonneg x (show d ≠ 0 by omega)
  rcases Int.lt_or_le x 0 with z | z
  · have l1 : x / d < 0 := Int.ediv_neg_of_neg_of_pos z hd
    have := Int.mul_le_mul_of_nonneg_right (show 1 ≤ d by omega) (show 0 ≤ -(x / d) - 1 by omega)
    have e2 : d * (-(x / d) - 1) = -(d * (x / d)) - d := by rw [Int.mul_sub, Int.mul_neg]; omega
    omega
  · have := Int.ediv_le_self d z
    have := Int.ediv_nonneg z (Int.le_of_lt hd)
    omega
theorem carrySt_sm {n : Nat} {b p : List Int × Int} {r : List Int} (h : Sm n (b.2 * p.2 - dot b.1 p.1)) (hd : 0 < p.2 * dot b.1 r) : Sm (n + 1) (carrySt b p r) := by
  have h1 : Sm (n + 1) ((b.2 * p.2 - dot b.1 p.1) / (p.2 * dot b.1 r) + 1) := by
    by_cases hn : n = 0
    · subst hn
      have := div_sm h hd
      unfold Sm at *
      omega
    · exact (div_sm h hd).add (Sm.lit (by show (1 : Int).natAbs < 2 ^ n; exact Nat.lt_of_lt_of_le (by decide) (Nat.pow_le_pow_right (n := 2) (by decide) (show 1 ≤ n by omega))))
  unfold carrySt
  split
  · exact Sm.lit (by simp; exact Nat.pow_pos (by decide))
  · exact h1
theorem Sm.sub {n : Nat} {i j : Int} (h : Sm n i) (k : Sm n j) : Sm (n + 1) (i - j) := by
  rw [Int.sub_eq_add_neg]
  exact h.add k.neg
theorem str_ce : (("clash" : Str) == ("endless" : Str)) = false := by decide +kernel
noncomputable def spec_carried_beyond (F : List D → Option D) : Prop := ∀ (b p : List Int × Int) (r : List Int), SmP med b → SmP 200 p → (∀ i ∈ r, Sm 1400 i) → 0 < p.2 * dot b.1 r → p.1.length = r.length → F [bD b, bD p, rowD r] = some (bD (carryP b p r)) ∧ SmP big (carryP b p r)
noncomputable def spec_reasons (F : List D → Option D) : Prop := ∀ (w : Nat) (ys : List (List Int × Int)) (b : List Int × Int), Yd w ys → b.1.length = w → SmP med b → ∀ W : Int, W = w → ∃ d, F [yD ys, .int W, bD b] = some d ∧
  ((∃ ws e, d = .tup [rowD ws, .int e] ∧ goodReason ys w b ws e = true ∧ (∀ i ∈ ws, Sm big i) ∧ Sm big e) ∨ (d = .non ∧ ((∃ p, Pt w p ∧ InY ys p) → ¬ Fol ys w b)))
noncomputable def spec_against (F : List D → Option D) : Prop := ∀ (w : Nat) (ys : List (List Int × Int)) (b : List Int × Int), Yd w ys → b.1.length = w → SmP med b → ∀ W : Int, W = w → ∃ d, F [yD ys, .int W, bD b] = some d ∧
  ((∃ p, d = bD p ∧ Pt w p ∧ InY ys p ∧ SmP big p ∧ b.2 * p.2 < dot b.1 p.1) ∨ (d = .non ∧ Fol ys w b))
theorem Bd.med {w : Nat} {b : List Int × Int} (h : Bd w b) (hw : w ≤ 3) : b.1.length = w ∧ SmP med b := ⟨by have := h.len; omega, (h.sm (by first | assumption | exact Nat.le_of_lt ‹_› | omega)).mono (by decide)⟩
theorem old_reasons {F : List D → Option D} (h : spec_reasons F) : spec_reasonsY F := fun w ys b Y hb hp => by
  have hm := hb.med Y.hi
  obtain ⟨d, e, ⟨ws, x, rfl, h1, h2, h3⟩ | ⟨rfl, h1⟩⟩ := h w ys b Y hm.1 hm.2 w rfl
  · exact .inl ⟨ws, x, e, h1, h2, h3⟩
  · exact .inr ⟨e, h1 hp⟩
theorem old_against {F : List D → Option D} (h : spec_against F) : spec_againstY F := fun w ys b Y hb hp => by
  have hm := hb.med Y.hi
  obtain ⟨d, e, ⟨p, rfl, h1, h2, h3, h4⟩ | ⟨rfl, h1⟩⟩ := h w ys b Y hm.1 hm.2 w rfl
  · exact .inl ⟨p, e, h1, h2, h3, h4⟩
  · exact .inr ⟨e, h1⟩

noncomputable def I31a (S N W : D) (w' : Nat) (ys : List (List Int × Int)) (ρ : Rho) : Prop := ∃ aim : List Int, aim.length = w' ∧ (∀ i ∈ aim, reach i = true) ∧ ρ = [some (.sh S), some (.sh W), some (.sh (.tup (ys.map bD))), some (.sh N), some (.sh (rowD aim)), none, none, none, none, none, none]
noncomputable def I31b (S N W : D) (ys : List (List Int × Int)) (aim : List Int) (R : D) (ρ : Rho) : Prop := ∃ lim : Int, reach lim = true ∧ ρ = [some (.sh S), some (.sh W), some (.sh (.tup (ys.map bD))), some (.sh N), some (.sh (rowD aim)), some (.sh (.int lim)), some (.sh R), none, none, none, none]
theorem clamp_reach (x : Int) : reach (if (if x < 1000000 then x else 1000000) > -1000000 then (if x < 1000000 then x else 1000000) else -1000000) = true := by
  simp [reach]
  split <;> split <;> omega

end KQ



set_option Elab.async false
set_option linter.all false
set_option maxRecDepth 100000
namespace KTk31
open PySem PySem.Spec L2 PD KQ
noncomputable def top (i : Nat) : Stmt := PySem.Challenge.pw_scaleyard_k31_whole_what_follows.main.body.getD i (.Pass ⟨0, 0, 0, 0⟩)
noncomputable abbrev s_product : Stmt := top 1
theorem sc_product : FnScope ["one", "other"] ["one", "other"] (defScope s_product) := ⟨rfl, rfl, rfl, by decide +kernel, rfl, by decide +kernel, by decide +kernel⟩
noncomputable abbrev s_turned : Stmt := top 2
theorem sc_turned : FnScope ["row"] ["row"] (defScope s_turned) := ⟨rfl, rfl, rfl, by decide +kernel, rfl, by decide +kernel, by decide +kernel⟩
noncomputable abbrev s_numbers_at : Stmt := top 3
theorem sc_numbers_at : FnScope ["bounds", "place"] ["bounds", "place"] (defScope s_numbers_at) := ⟨rfl, rfl, rfl, by decide +kernel, rfl, by decide +kernel, by decide +kernel⟩
noncomputable abbrev s_weighted_limit : Stmt := top 4
theorem sc_weighted_limit : FnScope ["bounds", "weights"] ["bounds", "weights"] (defScope s_weighted_limit) := ⟨rfl, rfl, rfl, by decide +kernel, rfl, by decide +kernel, by decide +kernel⟩
noncomputable abbrev s_weighted : Stmt := top 5
theorem sc_weighted : FnScope ["bounds", "weights", "wide", "row"] ["bounds", "weights", "wide"] (defScope s_weighted) := ⟨rfl, rfl, rfl, by decide +kernel, rfl, by decide +kernel, by decide +kernel⟩
noncomputable abbrev s_common_divisor : Stmt := top 6
theorem sc_common_divisor : FnScope ["numbers", "found", "number", "other", "rest"] ["numbers"] (defScope s_common_divisor) := ⟨rfl, rfl, rfl, by decide +kernel, rfl, by decide +kernel, by decide +kernel⟩
noncomputable abbrev s_shortened : Stmt := top 7
theorem sc_shortened : FnScope ["numbers", "divisor"] ["numbers"] (defScope s_shortened) := ⟨rfl, rfl, rfl, by decide +kernel, rfl, by decide +kernel, by decide +kernel⟩
noncomputable abbrev s_keeps : Stmt := top 9
theorem sc_keeps : FnScope ["bound", "point"] ["bound", "point"] (defScope s_keeps) := ⟨rfl, rfl, rfl, by decide +kernel, rfl, by decide +kernel, by decide +kernel⟩
noncomputable abbrev s_kept : Stmt := top 10
theorem sc_kept : FnScope ["bounds", "point"] ["bounds", "point"] (defScope s_kept) := ⟨rfl, rfl, rfl, by decide +kernel, rfl, by decide +kernel, by decide +kernel⟩
noncomputable abbrev s_single_weights : Stmt := top 12
theorem sc_single_weights : FnScope ["many", "chosen"] ["many", "chosen"] (defScope s_single_weights) := ⟨rfl, rfl, rfl, by decide +kernel, rfl, by decide +kernel, by decide +kernel⟩
noncomputable abbrev s_all_single_weights : Stmt := top 13
theorem sc_all_single_weights : FnScope ["many"] ["many"] (defScope s_all_single_weights) := ⟨rfl, rfl, rfl, by decide +kernel, rfl, by decide +kernel, by decide +kernel⟩
noncomputable abbrev s_used_by_either : Stmt := top 14
theorem sc_used_by_either : FnScope ["one", "other"] ["one", "other"] (defScope s_used_by_either) := ⟨rfl, rfl, rfl, by decide +kernel, rfl, by decide +kernel, by decide +kernel⟩
noncomputable abbrev s_cancelling_sum : Stmt := top 15
theorem sc_cancelling_sum : FnScope ["rising", "falling", "column", "rise", "fall"] ["rising", "falling", "column"] (defScope s_cancelling_sum) := ⟨rfl, rfl, rfl, by decide +kernel, rfl, by decide +kernel, by decide +kernel⟩
noncomputable abbrev s_cancelled : Stmt := top 16
theorem sc_cancelled : FnScope ["weightings", "column", "most", "found", "above", "below", "rising", "falling", "joined"] ["weightings", "column", "most"] (defScope s_cancelled) := ⟨rfl, rfl, rfl, by decide +kernel, rfl, by decide +kernel, by decide +kernel⟩
noncomputable abbrev s_raised_to_edge : Stmt := top 17
theorem sc_raised_to_edge : FnScope ["bound", "wide", "point", "last", "left", "row", "numbers"] ["bound", "wide", "point"] (defScope s_raised_to_edge) := ⟨rfl, rfl, rfl, by decide +kernel, rfl, by decide +kernel, by decide +kernel⟩
noncomputable abbrev s_raised : Stmt := top 18
theorem sc_raised : FnScope ["yard", "wide", "point", "tried", "candidate"] ["yard", "wide", "point"] (defScope s_raised) := ⟨rfl, rfl, rfl, by decide +kernel, rfl, by decide +kernel, by decide +kernel⟩
noncomputable abbrev s_cancelling_levels : Stmt := top 20
theorem sc_cancelling_levels : FnScope ["bounds", "wide", "levels", "gone"] ["bounds", "wide"] (defScope s_cancelling_levels) := ⟨rfl, rfl, rfl, by decide +kernel, rfl, by decide +kernel, by decide +kernel⟩
noncomputable abbrev s_first_clash : Stmt := top 21
theorem sc_first_clash : FnScope ["bounds", "weightings", "weights"] ["bounds", "weightings"] (defScope s_first_clash) := ⟨rfl, rfl, rfl, by decide +kernel, rfl, by decide +kernel, by decide +kernel⟩
noncomputable abbrev s_point_in : Stmt := top 22
theorem sc_point_in : FnScope ["yard", "wide", "levels", "point", "known", "bounds"] ["yard", "wide"] (defScope s_point_in) := ⟨rfl, rfl, rfl, by decide +kernel, rfl, by decide +kernel, by decide +kernel⟩
noncomputable abbrev s_clash : Stmt := top 23
theorem sc_clash : FnScope ["yard", "wide"] ["yard", "wide"] (defScope s_clash) := ⟨rfl, rfl, rfl, by decide +kernel, rfl, by decide +kernel, by decide +kernel⟩
noncomputable abbrev s_ceilings : Stmt := top 28
theorem sc_ceilings : FnScope ["yard", "wide", "aim", "bounds", "weightings"] ["yard", "wide", "aim"] (defScope s_ceilings) := ⟨rfl, rfl, rfl, by decide +kernel, rfl, by decide +kernel, by decide +kernel⟩
noncomputable abbrev s_lowest_ceiling : Stmt := top 29
theorem sc_lowest_ceiling : FnScope ["yard", "found", "lowest", "ceiling"] ["yard", "found"] (defScope s_lowest_ceiling) := ⟨rfl, rfl, rfl, by decide +kernel, rfl, by decide +kernel, by decide +kernel⟩
noncomputable abbrev s_point_at_least : Stmt := top 30
theorem sc_point_at_least : FnScope ["yard", "wide", "row", "limit"] ["yard", "wide", "row", "limit"] (defScope s_point_at_least) := ⟨rfl, rfl, rfl, by decide +kernel, rfl, by decide +kernel, by decide +kernel⟩
noncomputable abbrev s_rising_way : Stmt := top 31
theorem sc_rising_way : FnScope ["yard", "wide", "aim", "flat"] ["yard", "wide", "aim"] (defScope s_rising_way) := ⟨rfl, rfl, rfl, by decide +kernel, rfl, by decide +kernel, by decide +kernel⟩
noncomputable abbrev s_top : Stmt := top 32
theorem sc_top : FnScope ["yard", "wide", "aim", "weights", "found", "ceiling", "height", "point"] ["yard", "wide", "aim"] (defScope s_top) := ⟨rfl, rfl, rfl, by decide +kernel, rfl, by decide +kernel, by decide +kernel⟩
noncomputable abbrev s_reasons : Stmt := top 33
theorem sc_reasons : FnScope ["yard", "wide", "bound", "answer"] ["yard", "wide", "bound"] (defScope s_reasons) := ⟨rfl, rfl, rfl, by decide +kernel, rfl, by decide +kernel, by decide +kernel⟩
noncomputable abbrev s_carried_beyond : Stmt := top 34
theorem sc_carried_beyond : FnScope ["bound", "point", "way", "left", "steps", "row"] ["bound", "point", "way"] (defScope s_carried_beyond) := ⟨rfl, rfl, rfl, by decide +kernel, rfl, by decide +kernel, by decide +kernel⟩
noncomputable abbrev s_against : Stmt := top 35
theorem sc_against : FnScope ["yard", "wide", "bound", "answer"] ["yard", "wide", "bound"] (defScope s_against) := ⟨rfl, rfl, rfl, by decide +kernel, rfl, by decide +kernel, by decide +kernel⟩
noncomputable abbrev s_follows : Stmt := top 36
theorem sc_follows : FnScope ["yard", "wide", "bound"] ["yard", "wide", "bound"] (defScope s_follows) := ⟨rfl, rfl, rfl, by decide +kernel, rfl, by decide +kernel, by decide +kernel⟩
noncomputable abbrev s_law_cell_at : Stmt := top 38
theorem sc_law_cell_at : FnScope ["_law_script", "_law_k"] ["_law_script", "_law_k"] (defScope s_law_cell_at) := ⟨rfl, rfl, rfl, by decide +kernel, rfl, by decide +kernel, by decide +kernel⟩
noncomputable abbrev s_law_mixed : Stmt := top 39
theorem sc_law_mixed : FnScope ["_law_script", "_law_k", "_law_drawn_here"] ["_law_script", "_law_k"] (defScope s_law_mixed) := ⟨rfl, rfl, rfl, by decide +kernel, rfl, by decide +kernel, by decide +kernel⟩
noncomputable abbrev s_law_drawn : Stmt := top 40
theorem sc_law_drawn : FnScope ["_law_number", "_law_k", "_law_drawn_here"] ["_law_number", "_law_k"] (defScope s_law_drawn) := ⟨rfl, rfl, rfl, by decide +kernel, rfl, by decide +kernel, by decide +kernel⟩
noncomputable abbrev s_law_signed : Stmt := top 41
theorem sc_law_signed : FnScope ["_law_number", "_law_size_here"] ["_law_number", "_law_size_here"] (defScope s_law_signed) := ⟨rfl, rfl, rfl, by decide +kernel, rfl, by decide +kernel, by decide +kernel⟩
noncomputable abbrev s_law_row : Stmt := top 42
theorem sc_law_row : FnScope ["_law_number", "_law_wide", "_law_size_here"] ["_law_number", "_law_wide", "_law_size_here"] (defScope s_law_row) := ⟨rfl, rfl, rfl, by decide +kernel, rfl, by decide +kernel, by decide +kernel⟩
noncomputable abbrev s_law_size : Stmt := top 43
theorem sc_law_size : FnScope ["_law_number"] ["_law_number"] (defScope s_law_size) := ⟨rfl, rfl, rfl, by decide +kernel, rfl, by decide +kernel, by decide +kernel⟩
noncomputable abbrev s_law_yard : Stmt := top 44
theorem sc_law_yard : FnScope ["_law_number", "_law_wide", "_law_most", "_law_size_here", "_law_found", "_law_k", "_law_drawn_here", "_law_row_here", "_law_limit", "_law_other"] ["_law_number", "_law_wide", "_law_most"] (defScope s_law_yard) := ⟨rfl, rfl, rfl, by decide +kernel, rfl, by decide +kernel, by decide +kernel⟩
noncomputable abbrev s_law_product : Stmt := top 45
theorem sc_law_product : FnScope ["_law_one", "_law_other"] ["_law_one", "_law_other"] (defScope s_law_product) := ⟨rfl, rfl, rfl, by decide +kernel, rfl, by decide +kernel, by decide +kernel⟩
noncomputable abbrev s_law_keeps : Stmt := top 46
theorem sc_law_keeps : FnScope ["_law_bounds", "_law_point"] ["_law_bounds", "_law_point"] (defScope s_law_keeps) := ⟨rfl, rfl, rfl, by decide +kernel, rfl, by decide +kernel, by decide +kernel⟩
noncomputable abbrev s_law_whole : Stmt := top 47
theorem sc_law_whole : FnScope ["_law_thing"] ["_law_thing"] (defScope s_law_whole) := ⟨rfl, rfl, rfl, by decide +kernel, rfl, by decide +kernel, by decide +kernel⟩
noncomputable abbrev s_law_is_row : Stmt := top 48
theorem sc_law_is_row : FnScope ["_law_thing", "_law_wide"] ["_law_thing", "_law_wide"] (defScope s_law_is_row) := ⟨rfl, rfl, rfl, by decide +kernel, rfl, by decide +kernel, by decide +kernel⟩
noncomputable abbrev s_law_is_point : Stmt := top 49
theorem sc_law_is_point : FnScope ["_law_thing", "_law_wide"] ["_law_thing", "_law_wide"] (defScope s_law_is_point) := ⟨rfl, rfl, rfl, by decide +kernel, rfl, by decide +kernel, by decide +kernel⟩
noncomputable abbrev s_law_lies_in : Stmt := top 50
theorem sc_law_lies_in : FnScope ["_law_yard_here", "_law_wide", "_law_point"] ["_law_yard_here", "_law_wide", "_law_point"] (defScope s_law_lies_in) := ⟨rfl, rfl, rfl, by decide +kernel, rfl, by decide +kernel, by decide +kernel⟩
noncomputable abbrev s_law_are_weights : Stmt := top 51
theorem sc_law_are_weights : FnScope ["_law_thing", "_law_many"] ["_law_thing", "_law_many"] (defScope s_law_are_weights) := ⟨rfl, rfl, rfl, by decide +kernel, rfl, by decide +kernel, by decide +kernel⟩
noncomputable abbrev s_law_weighed : Stmt := top 52
theorem sc_law_weighed : FnScope ["_law_bounds", "_law_weights", "_law_wide", "_law_row_here"] ["_law_bounds", "_law_weights", "_law_wide"] (defScope s_law_weighed) := ⟨rfl, rfl, rfl, by decide +kernel, rfl, by decide +kernel, by decide +kernel⟩
noncomputable abbrev s_law_reason : Stmt := top 53
theorem sc_law_reason : FnScope ["_law_yard_here", "_law_wide", "_law_bound", "_law_found", "_law_row_here", "_law_limit"] ["_law_yard_here", "_law_wide", "_law_bound", "_law_found"] (defScope s_law_reason) := ⟨rfl, rfl, rfl, by decide +kernel, rfl, by decide +kernel, by decide +kernel⟩
noncomputable abbrev s_law : Stmt := top 54
theorem sc_law : FnScope ["_law_script", "_law_wide", "_law_yard_here", "_law_number", "_law_aim", "_law_limit", "_law_found", "_law_bound", "_law_told", "_law_reason_here", "_law_point"] ["_law_script"] (defScope s_law) := ⟨rfl, rfl, rfl, by decide +kernel, rfl, by decide +kernel, by decide +kernel⟩
set_option genSizeOf false in
set_option genInjectivity false in
structure Txt (mg : Str → Option Value) : Prop where
  c_CLASH : ∃ t, mg "CLASH" = some (.str "clash" t)
  c_ENDLESS : ∃ t, mg "ENDLESS" = some (.str "endless" t)
  c_TOP : ∃ t, mg "TOP" = some (.str "top" t)
  b_abs : mg "abs" = none
  b_all : mg "all" = none
  b_bool : mg "bool" = none
  b_int : mg "int" = none
  b_isinstance : mg "isinstance" = none
  b_len : mg "len" = none
  b_max : mg "max" = none
  b_min : mg "min" = none
  b_range : mg "range" = none
  b_sum : mg "sum" = none
  b_tuple : mg "tuple" = none
  b_zip : mg "zip" = none
section
variable {P : Program} {w : World} {K : PySem.W.Frag} {mg : Str → Option Value} {base : Heap}
set_option maxHeartbeats 1000000 in
theorem ok_product {f : Addr} {fd : FuncData} (T : Txt mg) (Fn : Fun K "product" "product" s_product f fd) (hm : mg "product" = some (.ref f)) (hB : Binds K fd ["one", "other"] [])   :
    ∃ F, FnD P w K mg base 1 "product" ["one", "other"] F ∧ spec_product F := by
  refine fn_sp spec_product Fn sc_product hm hB (fun cdv A outer s H E hr => (bv_one (sv_ret (ev_sum rfl rfl T.b_sum (ar_cons (Fv.r (fv_comp (ns := ["mine", "yours"]) rfl (compScope (fs := (defScope s_product)) (N := ["one", "other"]) rfl rfl (by decide +kernel)) (ir_zip rfl T.b_zip (ar_cons (Ev.r (vv 0)) (ar_cons (Ev.r (vv 1)) ar_nil))) bindC2 (fun _ _ _ => ⟨(pg_tup rfl (pgs_cons (pg_name (i := 0) (show (["mine", "yours", "one", "other"] : List Str).Nodup by decide +kernel) rfl (by first | exact Or.inl rfl | exact Or.inr rfl) (by first | exact Or.inl rfl | exact Or.inr rfl)) (pgs_cons (pg_name (i := 1) (show (["mine", "yours", "one", "other"] : List Str).Nodup by decide +kernel) rfl (by first | exact Or.inl rfl | exact Or.inr rfl) (by first | exact Or.inl rfl | exact Or.inr rfl)) pgs_nil))), tf_nil, (ev_mul (Ev.r (vv 0)) (Ev.r (vv 1)))⟩))) ar_nil))))) ?_
  intro F hF
  intro n a b hn ha hb hl A B hA hB
  rw [hF _ rfl]
  simp
  generalize hc : compD _ _ _ _ _ = o
  have ec : o = some ((List.zipWith (fun i j => i * j) a b).map D.int) := by
    rw [← hc, List.map_zipWith]
    refine compD_zip D.int D.int (as := a) (bs := b) (h := fun i j => .int (i * j)) (by simp [zipD, hA, hB]) (fun i hi j hj => ?_) hl
    have cm := (ha i hi).cmul (hb j hj) hn hn
    simp [cm]
  subst ec
  have ds := dot_sum a b
  generalize List.zipWith (fun i j => i * j) a b = z at ds
  simp [sumD, seqD, intsD_map, ds]
set_option maxHeartbeats 1000000 in
theorem ok_turned {f : Addr} {fd : FuncData} (T : Txt mg) (Fn : Fun K "turned" "turned" s_turned f fd) (hm : mg "turned" = some (.ref f)) (hB : Binds K fd ["row"] [])   :
    ∃ F, FnD P w K mg base 1 "turned" ["row"] F ∧ spec_turned F := by
  refine fn_sp spec_turned Fn sc_turned hm hB (fun cdv A outer s H E hr => (bv_one (sv_ret (ev_tuple rfl T.b_tuple (ar_cons (Fv.r (fv_comp (ns := ["number"]) rfl (compScope (fs := (defScope s_turned)) (N := ["row"]) rfl rfl (by decide +kernel)) (ir_seq (Ev.r (vv 0))) bindC1 (fun _ _ _ => ⟨(pg_name (i := 0) (show (["number", "row"] : List Str).Nodup by decide +kernel) rfl (by first | exact Or.inl rfl | exact Or.inr rfl) (by first | exact Or.inl rfl | exact Or.inr rfl)), tf_nil, (ev_neg (Ev.r (vv 0)))⟩))) ar_nil))))) ?_
  intro F hF
  intro a hl
  rw [hF _ rfl]
  simp
  generalize hc : compD _ _ _ _ _ = o
  have ec : o = some ((a.map fun i => -i).map D.int) := by
    rw [← hc, List.map_map]
    exact compD_map' D.int (as := a) (h := D.int ∘ fun i => -i) rfl (fun i hi => by simp) (by first | assumption | exact Nat.le_trans few (by decide) | exact Nat.le_trans Y.few (by decide) | omega)
  subst ec
  generalize a.map (fun i => -i) = z
  simp [rowD, tupleD]
set_option maxHeartbeats 1000000 in
theorem ok_numbers_at {f : Addr} {fd : FuncData} (T : Txt mg) (Fn : Fun K "numbers_at" "numbers_at" s_numbers_at f fd) (hm : mg "numbers_at" = some (.ref f)) (hB : Binds K fd ["bounds", "place"] [])   :
    ∃ F, FnD P w K mg base 1 "numbers_at" ["bounds", "place"] F ∧ spec_numbers_at F := by
  refine fn_sp spec_numbers_at Fn sc_numbers_at hm hB (fun cdv A outer s H E hr => (bv_one (sv_ret (Fv.v (fv_comp (ns := ["bound"]) rfl (compScope (fs := (defScope s_numbers_at)) (N := ["bounds", "place"]) rfl rfl (by decide +kernel)) (ir_seq (Ev.r (vv 0))) bindC1 (fun _ _ _ => ⟨(pg_name (i := 0) (show (["bound", "bounds", "place"] : List Str).Nodup by decide +kernel) rfl (by first | exact Or.inl rfl | exact Or.inr rfl) (by first | exact Or.inl rfl | exact Or.inr rfl)), tf_nil, (ev_item (Ev.r (ev_item (Ev.r (vv 0)) (Ev.r ev_int))) (Ev.r (vv 2)))⟩)))))) ?_
  intro F hF
  intro ys k hk hl Y hY
  rw [hF _ rfl]
  simp
  generalize hc : compD _ _ _ _ _ = o
  have ec : o = some ((colY ys k).map D.int) := by
    rw [← hc]
    unfold colY
    rw [List.map_map]
    refine compD_map' bD (as := ys) (h := D.int ∘ fun y => nth y.1 k) (by simp [hY]) (fun y hm => ?_) (by first | assumption | exact Nat.le_trans few (by decide) | exact Nat.le_trans Y.few (by decide) | omega)
    have e := atI_row (hk y hm)
    simp [bD, rowD, atI_zero, e]
  subst ec
  simp
set_option maxHeartbeats 1000000 in
theorem ok_weighted_limit {f : Addr} {fd : FuncData} (T : Txt mg) (Fn : Fun K "weighted_limit" "weighted_limit" s_weighted_limit f fd) (hm : mg "weighted_limit" = some (.ref f)) (hB : Binds K fd ["bounds", "weights"] []) {F_product : List D → Option D} (h_product : FnD P w K mg base 1 "product" ["one", "other"] F_product) (sp_product : spec_product F_product)  :
    ∃ F, FnD P w K mg base 2 "weighted_limit" ["bounds", "weights"] F ∧ spec_weighted_limit F := by
  refine fn_sp spec_weighted_limit Fn sc_weighted_limit hm hB (fun cdv A outer s H E hr => (bv_one (sv_ret (ev_call h_product (hr.mono (by decide)) (av_cons (vv 1) (av_cons (Fv.v (fv_comp (ns := ["bound"]) rfl (compScope (fs := (defScope s_weighted_limit)) (N := ["bounds", "weights"]) rfl rfl (by decide +kernel)) (ir_seq (Ev.r (vv 0))) bindC1 (fun _ _ _ => ⟨(pg_name (i := 0) (show (["bound", "bounds", "weights"] : List Str).Nodup by decide +kernel) rfl (by first | exact Or.inl rfl | exact Or.inr rfl) (by first | exact Or.inl rfl | exact Or.inr rfl)), tf_nil, (ev_item (Ev.r (vv 0)) (Ev.r ev_int))⟩))) av_nil)))))) ?_
  intro F hF
  intro n ys ws hn hy hw hl hl2 Y hY
  rw [hF _ rfl]
  simp
  generalize hc : compD _ _ _ _ _ = o
  have ec : o = some ((ys.map fun y => y.2).map D.int) := by
    rw [← hc, List.map_map]
    refine compD_map' bD (as := ys) (h := D.int ∘ fun y => y.2) (by simp [hY]) (fun y hm => ?_) (by first | assumption | exact Nat.le_trans few (by decide) | exact Nat.le_trans Y.few (by decide) | omega)
    simp
  subst ec
  have e := sp_product n ws (ys.map fun y => y.2) hn hw (fun j hj => by obtain ⟨y, hm, rfl⟩ := List.mem_map.mp hj; exact hy y hm) hl2 (rowD ws) (.lst ((ys.map fun y => y.2).map D.int)) rfl rfl
  generalize hz : (ys.map fun y => y.2).map D.int = zz at e
  simp [e, wLim]
set_option maxHeartbeats 1000000 in
theorem ok_weighted {f : Addr} {fd : FuncData} (T : Txt mg) (Fn : Fun K "weighted" "weighted" s_weighted f fd) (hm : mg "weighted" = some (.ref f)) (hB : Binds K fd ["bounds", "weights", "wide"] []) {F_product : List D → Option D} (h_product : FnD P w K mg base 1 "product" ["one", "other"] F_product) (sp_product : spec_product F_product) {F_numbers_at : List D → Option D} (h_numbers_at : FnD P w K mg base 1 "numbers_at" ["bounds", "place"] F_numbers_at) (sp_numbers_at : spec_numbers_at F_numbers_at) {F_weighted_limit : List D → Option D} (h_weighted_limit : FnD P w K mg base 2 "weighted_limit" ["bounds", "weights"] F_weighted_limit) (sp_weighted_limit : spec_weighted_limit F_weighted_limit)  :
    ∃ F, FnD P w K mg base 3 "weighted" ["bounds", "weights", "wide"] F ∧ spec_weighted F := by
  refine fn_sp spec_weighted Fn sc_weighted hm hB (fun cdv A outer s H E hr => (bv_cons (sv_compS 3 (ns := ["place"]) rfl (compScope (fs := (defScope s_weighted)) (N := ["bounds", "weights", "wide", "row"]) rfl rfl (by decide +kernel)) (Iv.r (iv_range1 rfl T.b_range (ar_cons (Ev.r (vv 2)) ar_nil))) bindC1 (fun _ _ _ => ⟨(pg_name (i := 0) (show (["place", "bounds", "weights", "wide", "row"] : List Str).Nodup by decide +kernel) rfl (by first | exact Or.inl rfl | exact Or.inr rfl) (by first | exact Or.inl rfl | exact Or.inr rfl)), tf_nil, (ev_call h_product (hr.mono (by decide)) (av_cons (vv 2) (av_cons (ev_call h_numbers_at (hr.mono (by decide)) (av_cons (vv 1) (av_cons (vv 0) av_nil))) av_nil)))⟩) sc_weighted.nd)
      (bv_one (sv_ret (ev_tup (av_cons (ev_tuple rfl T.b_tuple (ar_cons (Ev.r (vv 3)) ar_nil)) (av_cons (ev_call h_weighted_limit (hr.mono (by decide)) (av_cons (vv 0) (av_cons (vv 1) av_nil))) av_nil))))))) ?_
  intro F hF
  intro n ys ws w' hn hy hw hw3 hl hl2 Y hY
  rw [hF _ rfl]
  refine bo ?_
  show seqO _ _ [some (.sh Y), some (.sh (rowD ws)), some (.sh (.int (w' : Int))), none] = _
  generalize hW : (w' : Int) = W
  refine sq_comp ((wRow ys ws w').map D.int) ?_ ?_
  · unfold wRow
    rw [List.map_map]
    refine compD_map' (fun k : Nat => D.int (0 + (k : Int))) (as := List.range w') (h := D.int ∘ fun k => dot ws (ys.map fun y => nth y.1 k)) ?_ (fun k hk => ?_) (by simp; omega)
    · exact rng_in W w' hw3 hW _ _
    · have hk := List.mem_range.mp hk
      have e1 := sp_numbers_at ys k (fun y hm => by have := (hy y hm).2; omega) hl Y hY
      have e2 := sp_product n ws (colY ys k) hn hw (fun j hj => by obtain ⟨y, hm, rfl⟩ := List.mem_map.mp hj; exact getD_sm (hy y hm).1.row) hl2 (rowD ws) (.lst ((colY ys k).map D.int)) rfl rfl
      generalize hz : (colY ys k).map D.int = zz at e1 e2
      simp [e1, e2, colY]
  · dsimp only [List.set]
    have e := sp_weighted_limit n ys ws hn (fun y hm => (hy y hm).1.lim) hw hl hl2 Y hY
    rw [show bD (wRow ys ws w', wLim ys ws) = D.tup [D.tup ((wRow ys ws w').map D.int), .int (wLim ys ws)] from rfl]
    generalize (wRow ys ws w').map D.int = R
    generalize rowD ws = V at e
    simp [e, tupleD, fitOk]
set_option maxHeartbeats 1000000 in
theorem ok_common_divisor {f : Addr} {fd : FuncData} (T : Txt mg) (Fn : Fun K "common_divisor" "common_divisor" s_common_divisor f fd) (hm : mg "common_divisor" = some (.ref f)) (hB : Binds K fd ["numbers"] [])   :
    ∃ F, FnD P w K mg base 1 "common_divisor" ["numbers"] F ∧ spec_common_divisor F := by
  refine fn_sp spec_common_divisor Fn sc_common_divisor hm hB (fun cdv A outer s H E hr => (bv_cons (sv_set 1 sc_common_divisor.nd ev_int)
      (bv_cons (sv_for PassesOwn.never rfl (iv_seq (vv 0)) (pg_name (i := 2) sc_common_divisor.nd rfl (by first | exact Or.inl rfl | exact Or.inr rfl)) bindS1 (bv_cons (sv_set 3 sc_common_divisor.nd (ev_abs rfl T.b_abs (ar_cons (Ev.r (vv 2)) ar_nil)))
      (bv_one (sv_while 1000000 PassesOwn.never (ts_gt (Ev.r (vv 3)) (Ev.r ev_int)) (bv_cons (sv_set 4 sc_common_divisor.nd (ev_mod (Ev.r (vv 1)) (Ev.r (vv 3))))
      (bv_cons (sv_set 1 sc_common_divisor.nd (vv 3))
      (bv_one (sv_set 3 sc_common_divisor.nd (vv 4)))))))))
      (bv_one (sv_ret (vv 1)))))) ?_
  intro F hF
  intro a ha
  rw [hF _ rfl]
  refine bo ?_
  show seqO _ _ [some (.sh (.lst (a.map D.int))), none, none, none, none] = _
  refine sq_set (.int 0) rfl ?_
  dsimp only [List.set]
  refine sq_for D.int a (invG a) rfl ⟨_, _, _, rfl⟩ (fun pre i post ρ e h => ?_) (fun ρ h => ?_)
  · obtain ⟨x, y, z, rfl⟩ := h
    refine ⟨_, rfl, ?_⟩
    dsimp only [List.set]
    have hi : Sm 9000 i := ha i (by rw [e]; simp)
    refine sx_set (.int i.natAbs) (by simp [abs_nat]) ?_
    dsimp only [List.set]
    refine while_gcdx (k := 9000) (fun x y z => by simp) (fun x y z hy => ?_) hi (by decide) (fun z' => ⟨_, _, _, by rw [gcdL_snoc]⟩)
    have h1 : (0 : Int) < (y : Int) := by omega
    have h2 : y ≠ 0 := by omega
    refine sq_set (.int (x % y : Nat)) (by simp [h1, h2]) ?_
    dsimp only [List.set]
    refine sq_set (.int y) (by simp) ?_
    dsimp only [List.set]
    simp
  · obtain ⟨x, y, z, rfl⟩ := h
    simp
set_option maxHeartbeats 1000000 in
theorem ok_shortened {f : Addr} {fd : FuncData} (T : Txt mg) (Fn : Fun K "shortened" "shortened" s_shortened f fd) (hm : mg "shortened" = some (.ref f)) (hB : Binds K fd ["numbers"] []) {F_common_divisor : List D → Option D} (h_common_divisor : FnD P w K mg base 1 "common_divisor" ["numbers"] F_common_divisor) (sp_common_divisor : spec_common_divisor F_common_divisor)  :
    ∃ F, FnD P w K mg base 2 "shortened" ["numbers"] F ∧ spec_shortened F := by
  refine fn_sp spec_shortened Fn sc_shortened hm hB (fun cdv A outer s H E hr => (bv_cons (sv_set 1 sc_shortened.nd (ev_max rfl rfl T.b_max (ar_cons (Ev.r (ev_call h_common_divisor (hr.mono (by decide)) (av_cons (vv 0) av_nil))) (ar_cons (Ev.r ev_int) ar_nil))))
      (bv_one (sv_ret (ev_tuple rfl T.b_tuple (ar_cons (Fv.r (fv_comp (ns := ["number"]) rfl (compScope (fs := (defScope s_shortened)) (N := ["numbers", "divisor"]) rfl rfl (by decide +kernel)) (ir_seq (Ev.r (vv 0))) bindC1 (fun _ _ _ => ⟨(pg_name (i := 0) (show (["number", "numbers", "divisor"] : List Str).Nodup by decide +kernel) rfl (by first | exact Or.inl rfl | exact Or.inr rfl) (by first | exact Or.inl rfl | exact Or.inr rfl)), tf_nil, (ev_fdiv (Ev.r (vv 0)) (Ev.r (vv 2)))⟩))) ar_nil)))))) ?_
  intro F hF
  intro a ha hl
  rw [hF _ rfl]
  refine bo ?_
  show seqO _ _ [some (.sh (.lst (a.map D.int))), none] = _
  have e := sp_common_divisor a ha
  refine sq_set (.int (divL a)) (by simp [e, divL, maxD]) ?_
  dsimp only [List.set]
  have hcomp : ∀ o, o = some ((shortL a).map D.int) → b1 (b1 (fun _ => o) fun ds => some (D.lst ds)) (fun d => tupleD [d]) [] = some (rowD (shortL a)) := fun o h => by
    subst h
    rfl
  simp
  generalize hc : compD _ _ _ _ _ = o
  have ec : o = some ((shortL a).map D.int) := by
    rw [← hc]
    unfold shortL
    rw [List.map_map]
    refine compD_map' D.int (as := a) (h := D.int ∘ fun i => i / divL a) rfl (fun i hi => ?_) (by first | assumption | exact Nat.le_trans few (by decide) | exact Nat.le_trans Y.few (by decide) | omega)
    have cd := cdiv_sm (i := i) (divL_pos a) (divL_sm ha (by decide)) (Nat.le_refl _)
    simp [cd]
  subst ec
  generalize shortL a = z
  simp [rowD, tupleD]
set_option maxHeartbeats 1000000 in
theorem ok_keeps {f : Addr} {fd : FuncData} (T : Txt mg) (Fn : Fun K "keeps" "keeps" s_keeps f fd) (hm : mg "keeps" = some (.ref f)) (hB : Binds K fd ["bound", "point"] []) {F_product : List D → Option D} (h_product : FnD P w K mg base 1 "product" ["one", "other"] F_product) (sp_product : spec_product F_product)  :
    ∃ F, FnD P w K mg base 2 "keeps" ["bound", "point"] F ∧ spec_keeps F := by
  refine fn_sp spec_keeps Fn sc_keeps hm hB (fun cdv A outer s H E hr => (bv_one (sv_ret (ev_le (Ev.r (ev_call h_product (hr.mono (by decide)) (av_cons (ev_item (Ev.r (vv 0)) (Ev.r ev_int)) (av_cons (ev_item (Ev.r (vv 1)) (Ev.r ev_int)) av_nil)))) (Ev.r (ev_mul (Ev.r (ev_item (Ev.r (vv 0)) (Ev.r ev_int))) (Ev.r (ev_item (Ev.r (vv 1)) (Ev.r ev_int))))))))) ?_
  intro F hF
  intro n y p hn hy hp
  rw [hF _ rfl]
  have e := sp_product n y.1 p.1 hn hy.row hp.row hy.len (rowD y.1) (rowD p.1) rfl rfl
  have cm := hy.lim.cmul hp.lim hn hn
  simp [bD, atI_zero, atI_one, e, cm, keepB]
set_option maxHeartbeats 1000000 in
theorem ok_kept {f : Addr} {fd : FuncData} (T : Txt mg) (Fn : Fun K "kept" "kept" s_kept f fd) (hm : mg "kept" = some (.ref f)) (hB : Binds K fd ["bounds", "point"] []) {F_keeps : List D → Option D} (h_keeps : FnD P w K mg base 2 "keeps" ["bound", "point"] F_keeps) (sp_keeps : spec_keeps F_keeps)  :
    ∃ F, FnD P w K mg base 3 "kept" ["bounds", "point"] F ∧ spec_kept F := by
  refine fn_sp spec_kept Fn sc_kept hm hB (fun cdv A outer s H E hr => (bv_one (sv_ret (ev_all rfl rfl T.b_all (ar_cons (Fv.r (fv_comp (ns := ["bound"]) rfl (compScope (fs := (defScope s_kept)) (N := ["bounds", "point"]) rfl rfl (by decide +kernel)) (ir_seq (Ev.r (vv 0))) bindC1 (fun _ _ _ => ⟨(pg_name (i := 0) (show (["bound", "bounds", "point"] : List Str).Nodup by decide +kernel) rfl (by first | exact Or.inl rfl | exact Or.inr rfl) (by first | exact Or.inl rfl | exact Or.inr rfl)), tf_nil, (ev_call h_keeps (hr.mono (by decide)) (av_cons (vv 0) (av_cons (vv 2) av_nil)))⟩))) ar_nil))))) ?_
  intro F hF
  intro n ys p hn hy hp hl Y hY
  rw [hF _ rfl]
  simp
  generalize hc : compD _ _ _ _ _ = o
  have ec : o = some (ys.map fun y => D.bl (keepB y p)) := by
    rw [← hc]
    exact compD_map' bD (as := ys) (h := fun y => D.bl (keepB y p)) (by simp [hY]) (fun y hm => by simp [sp_keeps n y p hn (hy y hm) hp]) (by first | assumption | exact Nat.le_trans few (by decide) | exact Nat.le_trans Y.few (by decide) | omega)
  subst ec
  simp [allD_of]
set_option maxHeartbeats 1000000 in
theorem ok_single_weights {f : Addr} {fd : FuncData} (T : Txt mg) (Fn : Fun K "single_weights" "single_weights" s_single_weights f fd) (hm : mg "single_weights" = some (.ref f)) (hB : Binds K fd ["many", "chosen"] [])   :
    ∃ F, FnD P w K mg base 1 "single_weights" ["many", "chosen"] F ∧ spec_single_weights F := by
  refine fn_sp spec_single_weights Fn sc_single_weights hm hB (fun cdv A outer s H E hr => (bv_one (sv_ret (ev_tuple rfl T.b_tuple (ar_cons (Fv.r (fv_comp (ns := ["place"]) rfl (compScope (fs := (defScope s_single_weights)) (N := ["many", "chosen"]) rfl rfl (by decide +kernel)) (Iv.r (iv_range1 rfl T.b_range (ar_cons (Ev.r (vv 0)) ar_nil))) bindC1 (fun _ _ _ => ⟨(pg_name (i := 0) (show (["place", "many", "chosen"] : List Str).Nodup by decide +kernel) rfl (by first | exact Or.inl rfl | exact Or.inr rfl) (by first | exact Or.inl rfl | exact Or.inr rfl)), tf_nil, (ev_if (ts_eq hr (Ev.r (vv 0)) (Ev.r (vv 2))) ev_int ev_int)⟩))) ar_nil))))) ?_
  intro F hF
  intro m j hm
  rw [hF _ rfl]
  generalize hM : (m : Int) = M
  simp
  generalize hc : compD _ _ _ _ _ = o
  have ec : o = some ((single m j).map D.int) := by
    rw [← hc]
    unfold single
    rw [List.map_map]
    refine compD_map' (fun k : Nat => D.int (0 + (k : Int))) (as := List.range m) (h := D.int ∘ fun i => if i = j then 1 else 0) ?_ (fun i hi => ?_) (by simp; omega)
    · exact rng_b rfl hm hM
    · by_cases e : i = j
      · subst e
        simp
      · have e2 : ((i : Int) == (j : Int)) = false := by simp; omega
        simp [e, e2]
  subst ec
  generalize single m j = z
  simp [rowD, tupleD]
set_option maxHeartbeats 1000000 in
theorem ok_all_single_weights {f : Addr} {fd : FuncData} (T : Txt mg) (Fn : Fun K "all_single_weights" "all_single_weights" s_all_single_weights f fd) (hm : mg "all_single_weights" = some (.ref f)) (hB : Binds K fd ["many"] []) {F_single_weights : List D → Option D} (h_single_weights : FnD P w K mg base 1 "single_weights" ["many", "chosen"] F_single_weights) (sp_single_weights : spec_single_weights F_single_weights)  :
    ∃ F, FnD P w K mg base 2 "all_single_weights" ["many"] F ∧ spec_all_single_weights F := by
  refine fn_sp spec_all_single_weights Fn sc_all_single_weights hm hB (fun cdv A outer s H E hr => (bv_one (sv_ret (Fv.v (fv_comp (ns := ["chosen"]) rfl (compScope (fs := (defScope s_all_single_weights)) (N := ["many"]) rfl rfl (by decide +kernel)) (Iv.r (iv_range1 rfl T.b_range (ar_cons (Ev.r (vv 0)) ar_nil))) bindC1 (fun _ _ _ => ⟨(pg_name (i := 0) (show (["chosen", "many"] : List Str).Nodup by decide +kernel) rfl (by first | exact Or.inl rfl | exact Or.inr rfl) (by first | exact Or.inl rfl | exact Or.inr rfl)), tf_nil, (ev_call h_single_weights (hr.mono (by decide)) (av_cons (vv 1) (av_cons (vv 0) av_nil)))⟩)))))) ?_
  intro F hF
  intro m hm
  rw [hF _ rfl]
  have sp : ∀ j : Nat, F_single_weights [.int (m : Int), .int (j : Int)] = some (rowD (single m j)) := fun j => sp_single_weights m j hm
  generalize hM : (m : Int) = M at sp
  simp
  generalize hc : compD _ _ _ _ _ = o
  have ec : o = some ((singles m).map rowD) := by
    rw [← hc]
    unfold singles
    rw [List.map_map]
    refine compD_map' (fun k : Nat => D.int (0 + (k : Int))) (as := List.range m) (h := rowD ∘ single m) ?_ (fun i hi => ?_) (by simp; omega)
    · exact rng_b rfl hm hM
    · simp [sp i]
  subst ec
  simp
set_option maxHeartbeats 1000000 in
theorem ok_used_by_either {f : Addr} {fd : FuncData} (T : Txt mg) (Fn : Fun K "used_by_either" "used_by_either" s_used_by_either f fd) (hm : mg "used_by_either" = some (.ref f)) (hB : Binds K fd ["one", "other"] [])   :
    ∃ F, FnD P w K mg base 1 "used_by_either" ["one", "other"] F ∧ spec_used_by_either F := by
  refine fn_sp spec_used_by_either Fn sc_used_by_either hm hB (fun cdv A outer s H E hr => (bv_one (sv_ret (ev_len rfl T.b_len (ar_cons (Fv.r (fv_comp (ns := ["mine", "yours"]) rfl (compScope (fs := (defScope s_used_by_either)) (N := ["one", "other"]) rfl rfl (by decide +kernel)) (ir_zip rfl T.b_zip (ar_cons (Ev.r (vv 0)) (ar_cons (Ev.r (vv 1)) ar_nil))) bindC2 (fun _ _ _ => ⟨(pg_tup rfl (pgs_cons (pg_name (i := 0) (show (["mine", "yours", "one", "other"] : List Str).Nodup by decide +kernel) rfl (by first | exact Or.inl rfl | exact Or.inr rfl) (by first | exact Or.inl rfl | exact Or.inr rfl)) (pgs_cons (pg_name (i := 1) (show (["mine", "yours", "one", "other"] : List Str).Nodup by decide +kernel) rfl (by first | exact Or.inl rfl | exact Or.inr rfl) (by first | exact Or.inl rfl | exact Or.inr rfl)) pgs_nil))), (tf_one (ts_w (tw_or (ts_gt (Ev.r (vv 0)) (Ev.r ev_int)) (tw_or1 (ts_gt (Ev.r (vv 1)) (Ev.r ev_int)))))), ev_int⟩))) ar_nil))))) ?_
  intro F hF
  intro r f hl
  rw [hF _ rfl]
  simp
  generalize hc : compD _ _ _ _ _ = o
  have ec : o = some (((List.zip r f).filter fun x => decide (0 < x.1) || decide (0 < x.2)).map fun _ => D.int 1) := by
    rw [← hc]
    refine compD_zipf D.int D.int (as := r) (bs := f) (p := fun x => decide (0 < x.1) || decide (0 < x.2)) (h := fun _ => D.int 1) (by simp [zipD, seqD, rowD]) (fun i hi j hj => ?_) (fun i hi j hj _ => by simp) hl
    by_cases h1 : 0 < i
    · simp [orB, h1]
    · by_cases h2 : 0 < j <;> simp [orB, h1, h2]
  subst ec
  simp [usedL]
set_option maxHeartbeats 1000000 in
theorem ok_cancelling_sum {f : Addr} {fd : FuncData} (T : Txt mg) (Fn : Fun K "cancelling_sum" "cancelling_sum" s_cancelling_sum f fd) (hm : mg "cancelling_sum" = some (.ref f)) (hB : Binds K fd ["rising", "falling", "column"] []) {F_product : List D → Option D} (h_product : FnD P w K mg base 1 "product" ["one", "other"] F_product) (sp_product : spec_product F_product) {F_shortened : List D → Option D} (h_shortened : FnD P w K mg base 2 "shortened" ["numbers"] F_shortened) (sp_shortened : spec_shortened F_shortened)  :
    ∃ F, FnD P w K mg base 3 "cancelling_sum" ["rising", "falling", "column"] F ∧ spec_cancelling_sum F := by
  refine fn_sp spec_cancelling_sum Fn sc_cancelling_sum hm hB (fun cdv A outer s H E hr => (bv_cons (sv_set 3 sc_cancelling_sum.nd (ev_call h_product (hr.mono (by decide)) (av_cons (vv 0) (av_cons (vv 2) av_nil))))
      (bv_cons (sv_set 4 sc_cancelling_sum.nd (ev_neg (Ev.r (ev_call h_product (hr.mono (by decide)) (av_cons (vv 1) (av_cons (vv 2) av_nil))))))
      (bv_one (sv_ret (ev_call h_shortened (hr.mono (by decide)) (av_cons (Fv.v (fv_comp (ns := ["mine", "yours"]) rfl (compScope (fs := (defScope s_cancelling_sum)) (N := ["rising", "falling", "column", "rise", "fall"]) rfl rfl (by decide +kernel)) (ir_zip rfl T.b_zip (ar_cons (Ev.r (vv 0)) (ar_cons (Ev.r (vv 1)) ar_nil))) bindC2 (fun _ _ _ => ⟨(pg_tup rfl (pgs_cons (pg_name (i := 0) (show (["mine", "yours", "rising", "falling", "column", "rise", "fall"] : List Str).Nodup by decide +kernel) rfl (by first | exact Or.inl rfl | exact Or.inr rfl) (by first | exact Or.inl rfl | exact Or.inr rfl)) (pgs_cons (pg_name (i := 1) (show (["mine", "yours", "rising", "falling", "column", "rise", "fall"] : List Str).Nodup by decide +kernel) rfl (by first | exact Or.inl rfl | exact Or.inr rfl) (by first | exact Or.inl rfl | exact Or.inr rfl)) pgs_nil))), tf_nil, (ev_add (Ev.r (ev_mul (Ev.r (vv 6)) (Ev.r (vv 0)))) (Ev.r (ev_mul (Ev.r (vv 5)) (Ev.r (vv 1)))))⟩))) av_nil))))))) ?_
  intro F hF
  intro n k m r f c hs hm hr hf hc sr sf sc
  rw [hF _ rfl]
  refine bo ?_
  show seqO _ _ [some (.sh (rowD r)), some (.sh (rowD f)), some (.sh (.lst (c.map D.int))), none, none] = _
  have e1 := sp_product (n + k) r c (by first | assumption | exact Nat.le_trans few (by decide) | exact Nat.le_trans Y.few (by decide) | omega) (fun i hi => (sr i hi).mono (by first | assumption | exact Nat.le_trans few (by decide) | exact Nat.le_trans Y.few (by decide) | omega)) (fun i hi => (sc i hi).mono (by first | assumption | exact Nat.le_trans few (by decide) | exact Nat.le_trans Y.few (by decide) | omega)) (by first | assumption | exact Nat.le_trans few (by decide) | exact Nat.le_trans Y.few (by decide) | omega) (rowD r) (.lst (c.map D.int)) rfl rfl
  have e2 := sp_product (n + k) f c (by first | assumption | exact Nat.le_trans few (by decide) | exact Nat.le_trans Y.few (by decide) | omega) (fun i hi => (sf i hi).mono (by first | assumption | exact Nat.le_trans few (by decide) | exact Nat.le_trans Y.few (by decide) | omega)) (fun i hi => (sc i hi).mono (by first | assumption | exact Nat.le_trans few (by decide) | exact Nat.le_trans Y.few (by decide) | omega)) (by first | assumption | exact Nat.le_trans few (by decide) | exact Nat.le_trans Y.few (by decide) | omega) (rowD f) (.lst (c.map D.int)) rfl rfl
  have dr := dot_sm sr sc (by first | assumption | exact Nat.le_trans few (by decide) | exact Nat.le_trans Y.few (by decide) | omega)
  have df := (dot_sm sf sc (by first | assumption | exact Nat.le_trans few (by decide) | exact Nat.le_trans Y.few (by decide) | omega)).neg
  have hz : ∀ i ∈ combW r f c, Sm 9000 i := fun x hx => by
    unfold combW at hx
    obtain ⟨t, ht, rfl⟩ := List.mem_iff_getElem.mp hx
    rw [List.getElem_zipWith]
    rw [List.length_zipWith] at ht
    have h1 := df.mul (sr _ (List.getElem_mem (show t < r.length by omega)))
    have h2 := dr.mul (sf _ (List.getElem_mem (show t < f.length by omega)))
    exact (h1.add h2).mono (by first | assumption | exact Nat.le_trans few (by decide) | exact Nat.le_trans Y.few (by decide) | omega)
  have e3 := sp_shortened (combW r f c) hz (by simp [combW]; omega)
  generalize c.map D.int = C at e1 e2
  refine sq_set (.int (dot r c)) (by simp [e1]) ?_
  dsimp only [List.set]
  refine sq_set (.int (-dot f c)) (by simp [e2]) ?_
  dsimp only [List.set]
  simp
  generalize hcc : compD _ _ _ _ _ = o
  have ec : o = some ((combW r f c).map D.int) := by
    rw [← hcc]
    unfold combW
    rw [List.map_zipWith]
    refine compD_zip D.int D.int (as := r) (bs := f) (h := fun i j => .int (-dot f c * i + dot r c * j)) (by simp [zipD, seqD, rowD]) (fun i hi j hj => ?_) (by first | assumption | exact Nat.le_trans few (by decide) | exact Nat.le_trans Y.few (by decide) | omega)
    have c1 := df.cmul (sr i hi) (by first | assumption | exact Nat.le_trans few (by decide) | exact Nat.le_trans Y.few (by decide) | omega) (by first | assumption | exact Nat.le_trans few (by decide) | exact Nat.le_trans Y.few (by decide) | omega)
    have c2 := dr.cmul (sf j hj) (by first | assumption | exact Nat.le_trans few (by decide) | exact Nat.le_trans Y.few (by decide) | omega) (by first | assumption | exact Nat.le_trans few (by decide) | exact Nat.le_trans Y.few (by decide) | omega)
    simp [c1, c2]
  subst ec
  generalize shortL (combW r f c) = z at e3
  generalize (combW r f c).map D.int = y at e3
  simp [e3]
set_option maxHeartbeats 1000000 in
theorem ok_cancelled {f : Addr} {fd : FuncData} (T : Txt mg) (Fn : Fun K "cancelled" "cancelled" s_cancelled f fd) (hm : mg "cancelled" = some (.ref f)) (hB : Binds K fd ["weightings", "column", "most"] []) {F_product : List D → Option D} (h_product : FnD P w K mg base 1 "product" ["one", "other"] F_product) (sp_product : spec_product F_product) {F_used_by_either : List D → Option D} (h_used_by_either : FnD P w K mg base 1 "used_by_either" ["one", "other"] F_used_by_either) (sp_used_by_either : spec_used_by_either F_used_by_either) {F_cancelling_sum : List D → Option D} (h_cancelling_sum : FnD P w K mg base 3 "cancelling_sum" ["rising", "falling", "column"] F_cancelling_sum) (sp_cancelling_sum : spec_cancelling_sum F_cancelling_sum)  :
    ∃ F, FnD P w K mg base 4 "cancelled" ["weightings", "column", "most"] F ∧ spec_cancelled F := by
  refine fn_sp spec_cancelled Fn sc_cancelled hm hB (fun cdv A outer s H E hr => (bv_cons (sv_compO 3 (ns := ["weights"]) rfl (compScope (fs := (defScope s_cancelled)) (N := ["weightings", "column", "most", "found", "above", "below", "rising", "falling", "joined"]) rfl rfl (by decide +kernel)) (ir_seq (Ev.r (vv 0))) bindC1 (fun _ _ _ => ⟨(pg_name (i := 0) (show (["weights", "weightings", "column", "most", "found", "above", "below", "rising", "falling", "joined"] : List Str).Nodup by decide +kernel) rfl (by first | exact Or.inl rfl | exact Or.inr rfl) (by first | exact Or.inl rfl | exact Or.inr rfl)), (tf_one (ts_eq hr (Ev.r (ev_call h_product (hr.mono (by decide)) (av_cons (vv 0) (av_cons (vv 2) av_nil)))) (Ev.r ev_int))), (vv 0)⟩) sc_cancelled.nd)
      (bv_cons (sv_compS 4 (ns := ["weights"]) rfl (compScope (fs := (defScope s_cancelled)) (N := ["weightings", "column", "most", "found", "above", "below", "rising", "falling", "joined"]) rfl rfl (by decide +kernel)) (ir_seq (Ev.r (vv 0))) bindC1 (fun _ _ _ => ⟨(pg_name (i := 0) (show (["weights", "weightings", "column", "most", "found", "above", "below", "rising", "falling", "joined"] : List Str).Nodup by decide +kernel) rfl (by first | exact Or.inl rfl | exact Or.inr rfl) (by first | exact Or.inl rfl | exact Or.inr rfl)), (tf_one (ts_gt (Ev.r (ev_call h_product (hr.mono (by decide)) (av_cons (vv 0) (av_cons (vv 2) av_nil)))) (Ev.r ev_int))), (vv 0)⟩) sc_cancelled.nd)
      (bv_cons (sv_compS 5 (ns := ["weights"]) rfl (compScope (fs := (defScope s_cancelled)) (N := ["weightings", "column", "most", "found", "above", "below", "rising", "falling", "joined"]) rfl rfl (by decide +kernel)) (ir_seq (Ev.r (vv 0))) bindC1 (fun _ _ _ => ⟨(pg_name (i := 0) (show (["weights", "weightings", "column", "most", "found", "above", "below", "rising", "falling", "joined"] : List Str).Nodup by decide +kernel) rfl (by first | exact Or.inl rfl | exact Or.inr rfl) (by first | exact Or.inl rfl | exact Or.inr rfl)), (tf_one (ts_lt (Ev.r (ev_call h_product (hr.mono (by decide)) (av_cons (vv 0) (av_cons (vv 2) av_nil)))) (Ev.r ev_int))), (vv 0)⟩) sc_cancelled.nd)
      (bv_cons (sv_for PassesOwn.never rfl (iv_seq (vv 4)) (pg_name (i := 6) sc_cancelled.nd rfl (by first | exact Or.inl rfl | exact Or.inr rfl)) bindS1 (bv_one (sv_for PassesOwn.never rfl (iv_seq (vv 5)) (pg_name (i := 7) sc_cancelled.nd rfl (by first | exact Or.inl rfl | exact Or.inr rfl)) bindS1 (bv_one (sv_if (ts_le (Ev.r (ev_call h_used_by_either (hr.mono (by decide)) (av_cons (vv 6) (av_cons (vv 7) av_nil)))) (Ev.r (vv 2))) (bv_cons (sv_set 8 sc_cancelled.nd (ev_call h_cancelling_sum (hr.mono (by decide)) (av_cons (vv 6) (av_cons (vv 7) (av_cons (vv 1) av_nil)))))
      (bv_one (sv_if (ts_notIn hr (Ev.r (vv 8)) (vr 3)) (bv_one (sv_append 3 (vv 8))) bv_nil))) bv_nil)))))
      (bv_one (sv_retO (i := 3)))))))) ?_
  intro F hF
  intro n k m most L c hs hm hL hcl hc hll
  rw [hF _ rfl]
  have hprod : ∀ v ∈ L, F_product [rowD v, .lst (c.map D.int)] = some (.int (dot v c)) := fun v hv => sp_product (n + k) v c (by first | assumption | exact Nat.le_trans few (by decide) | exact Nat.le_trans Y.few (by decide) | omega) (fun i hi => ((hL v hv).2 i hi).mono (by first | assumption | exact Nat.le_trans few (by decide) | exact Nat.le_trans Y.few (by decide) | omega)) (fun i hi => (hc i hi).mono (by first | assumption | exact Nat.le_trans few (by decide) | exact Nat.le_trans Y.few (by decide) | omega)) (by rw [(hL v hv).1]; omega) (rowD v) (.lst (c.map D.int)) rfl rfl
  have hsum : ∀ r ∈ L, ∀ f ∈ L, F_cancelling_sum [rowD r, rowD f, .lst (c.map D.int)] = some (rowD (shortL (combW r f c))) := fun r hr f hf => sp_cancelling_sum n k m r f c hs hm (hL r hr).1 (hL f hf).1 hcl (hL r hr).2 (hL f hf).2 hc
  have hused : ∀ r ∈ L, ∀ f : List Int, F_used_by_either [rowD r, rowD f] = some (.int (usedL r f)) := fun r hr f => sp_used_by_either r f (by rw [(hL r hr).1]; omega)
  refine bo ?_
  show seqO _ _ [some (.sh (.lst (L.map rowD))), some (.sh (.lst (c.map D.int))), some (.sh (.int (most : Int))), none, none, none, none, none, none] = _
  generalize c.map D.int = C at hprod hsum
  refine sq_own ((zeroL L c).map rowD) ?_ ?_
  · refine compD_filter' rowD (as := L) (h := rowD) (p := fun v => decide (dot v c = 0)) rfl (fun v hv => ?_) (fun v hv _ => by simp) (by first | assumption | exact Nat.le_trans few (by decide) | exact Nat.le_trans Y.few (by decide) | omega)
    have e : (dot v c == 0) = decide (dot v c = 0) := by by_cases z : dot v c = 0 <;> simp [z]
    simp [hprod v hv, e]
  dsimp only [List.set]
  refine sq_comp ((aboveL L c).map rowD) ?_ ?_
  · refine compD_filter' rowD (as := L) (h := rowD) (p := fun v => decide (0 < dot v c)) rfl (fun v hv => ?_) (fun v hv _ => by simp) (by first | assumption | exact Nat.le_trans few (by decide) | exact Nat.le_trans Y.few (by decide) | omega)
    simp [hprod v hv]
  dsimp only [List.set]
  refine sq_comp ((belowL L c).map rowD) ?_ ?_
  · refine compD_filter' rowD (as := L) (h := rowD) (p := fun v => decide (dot v c < 0)) rfl (fun v hv => ?_) (fun v hv _ => by simp) (by first | assumption | exact Nat.le_trans few (by decide) | exact Nat.le_trans Y.few (by decide) | omega)
    simp [hprod v hv]
  dsimp only [List.set]
  have t3 := three_len L c
  have iL : ∀ v ∈ aboveL L c, v ∈ L := fun v hv => (List.mem_filter.mp hv).1
  have iB : ∀ v ∈ belowL L c, v ∈ L := fun v hv => (List.mem_filter.mp hv).1
  have hcm : cancM L c most = outerJ c most (zeroL L c) (aboveL L c) (belowL L c) := rfl
  rw [hcm]
  generalize zeroL L c = Z at *
  generalize hA : aboveL L c = A at *
  generalize hB : belowL L c = B at *
  refine sq_for rowD A (invC (.lst (L.map rowD)) (.lst C) (.int most) (A.map rowD) (B.map rowD) Z c most B) rfl ⟨_, _, _, rfl⟩ (fun pre r post ρ e h => ?_) (fun ρ h => ?_)
  · obtain ⟨x, y, z, rfl⟩ := h
    refine ⟨_, rfl, ?_⟩
    dsimp only [List.set]
    have hr : r ∈ L := iL r (by rw [e]; simp)
    have gl := (outer_grow c most B pre Z).1.len
    have pl : pre.length ≤ A.length := by rw [e]; simp
    have ml := Nat.mul_le_mul (show pre.length ≤ 1000 by omega) (show B.length ≤ 1000 by omega)
    generalize hO : outerJ c most Z pre B = O at gl
    refine for_ex rowD B (invI (.lst (L.map rowD)) (.lst C) (.int most) (A.map rowD) (B.map rowD) O c most r) rfl ⟨_, _, rfl⟩ (fun pf f qf ρ ef hi => ?_) (fun ρ' h' => ?_)
    rotate_left
    · obtain ⟨y', z', rfl⟩ := h'
      exact ⟨some (.sh (rowD r)), y', z', by rw [outer_snoc, hO]⟩
    · skip
      obtain ⟨y, z, rfl⟩ := hi
      refine ⟨_, rfl, ?_⟩
      dsimp only [List.set]
      have hf : f ∈ L := iB f (by rw [ef]; simp)
      have gi := (inner_grow c most r pf O).1.len
      have pfl : pf.length ≤ B.length := by rw [ef]; simp
      have hu := hused r hr f
      rw [show invI (.lst (L.map rowD)) (.lst C) (.int most) (A.map rowD) (B.map rowD) O c most r (pf ++ [f]) = fun ρ => ∃ y z, ρ = [some (.sh (.lst (L.map rowD))), some (.sh (.lst C)), some (.sh (.int (most : Int))), some (.ow ((stepJ c most (innerJ c most O r pf) r f).map rowD)), some (.sh (.lst (A.map rowD))), some (.sh (.lst (B.map rowD))), some (.sh (rowD r)), y, z] by unfold invI; rw [inner_snoc]]
      generalize innerJ c most O r pf = I at gi
      by_cases h1 : usedL r f ≤ most
      · have t1 : decide ((usedL r f : Int) ≤ (most : Int)) = true := decide_eq_true (by first | assumption | exact Nat.le_trans few (by decide) | exact Nat.le_trans Y.few (by decide) | omega)
        by_cases h2 : shortL (combW r f c) ∈ I
        · refine ⟨[some (.sh (.lst (L.map rowD))), some (.sh (.lst C)), some (.sh (.int (most : Int))), some (.ow (I.map rowD)), some (.sh (.lst (A.map rowD))), some (.sh (.lst (B.map rowD))), some (.sh (rowD r)), some (.sh (rowD f)), some (.sh (rowD (shortL (combW r f c))))], ?_, _, _, by unfold stepJ; rw [if_pos h1, if_pos h2]⟩
          refine it_t (by simp [hu]; omega) ?_
          refine sq_set (rowD (shortL (combW r f c))) (by simp [hsum r hr f hf]) ?_
          dsimp only [List.set]
          refine it_f ?_ rfl
          have nI := notIn_rows (shortL (combW r f c)) I
          rw [decide_eq_true h2] at nI
          generalize shortL (combW r f c) = S at nI
          simp [nI]
        · refine ⟨[some (.sh (.lst (L.map rowD))), some (.sh (.lst C)), some (.sh (.int (most : Int))), some (.ow ((I ++ [shortL (combW r f c)]).map rowD)), some (.sh (.lst (A.map rowD))), some (.sh (.lst (B.map rowD))), some (.sh (rowD r)), some (.sh (rowD f)), some (.sh (rowD (shortL (combW r f c))))], ?_, _, _, by unfold stepJ; rw [if_pos h1, if_neg h2]⟩
          refine it_t (by simp [hu]; omega) ?_
          refine sq_set (rowD (shortL (combW r f c))) (by simp [hsum r hr f hf]) ?_
          dsimp only [List.set]
          have nI := notIn_rows (shortL (combW r f c)) I
          rw [decide_eq_false h2] at nI
          generalize shortL (combW r f c) = S at nI
          refine it_t (by simp [nI]) ?_
          rw [app_at (I.map rowD) (rowD S) rfl (by simp) (by rw [List.length_map]; unfold sizeLine; omega)]
          simp
      · have t1 : decide ((usedL r f : Int) ≤ (most : Int)) = false := decide_eq_false (by first | assumption | exact Nat.le_trans few (by decide) | exact Nat.le_trans Y.few (by decide) | omega)
        refine ⟨[some (.sh (.lst (L.map rowD))), some (.sh (.lst C)), some (.sh (.int (most : Int))), some (.ow (I.map rowD)), some (.sh (.lst (A.map rowD))), some (.sh (.lst (B.map rowD))), some (.sh (rowD r)), some (.sh (rowD f)), z], ?_, _, _, by unfold stepJ; rw [if_neg h1]⟩
        exact it_f (by simp [hu]; omega) rfl
  · obtain ⟨x, y, z, rfl⟩ := h
    rfl
set_option maxHeartbeats 1000000 in
theorem ok_raised_to_edge {f : Addr} {fd : FuncData} (T : Txt mg) (Fn : Fun K "raised_to_edge" "raised_to_edge" s_raised_to_edge f fd) (hm : mg "raised_to_edge" = some (.ref f)) (hB : Binds K fd ["bound", "wide", "point"] []) {F_product : List D → Option D} (h_product : FnD P w K mg base 1 "product" ["one", "other"] F_product) (sp_product : spec_product F_product) {F_shortened : List D → Option D} (h_shortened : FnD P w K mg base 2 "shortened" ["numbers"] F_shortened) (sp_shortened : spec_shortened F_shortened)  :
    ∃ F, FnD P w K mg base 3 "raised_to_edge" ["bound", "wide", "point"] F ∧ spec_raised_to_edge F := by
  refine fn_sp spec_raised_to_edge Fn sc_raised_to_edge hm hB (fun cdv A outer s H E hr => (bv_cons (sv_set 3 sc_raised_to_edge.nd (ev_item (Ev.r (ev_item (Ev.r (vv 0)) (Ev.r ev_int))) (Ev.r (ev_sub (Ev.r (vv 1)) (Ev.r ev_int)))))
      (bv_cons (sv_set 4 sc_raised_to_edge.nd (ev_sub (Ev.r (ev_mul (Ev.r (ev_item (Ev.r (vv 0)) (Ev.r ev_int))) (Ev.r (ev_item (Ev.r (vv 2)) (Ev.r ev_int))))) (Ev.r (ev_call h_product (hr.mono (by decide)) (av_cons (ev_slice (Ev.r (ev_item (Ev.r (vv 0)) (Ev.r ev_int))) ov_none (ov_some (Ev.r (ev_sub (Ev.r (vv 1)) (Ev.r ev_int))))) (av_cons (ev_item (Ev.r (vv 2)) (Ev.r ev_int)) av_nil))))))
      (bv_cons (sv_compO 5 (ns := ["number"]) rfl (compScope (fs := (defScope s_raised_to_edge)) (N := ["bound", "wide", "point", "last", "left", "row", "numbers"]) rfl rfl (by decide +kernel)) (ir_seq (Ev.r (ev_item (Ev.r (vv 2)) (Ev.r ev_int)))) bindC1 (fun _ _ _ => ⟨(pg_name (i := 0) (show (["number", "bound", "wide", "point", "last", "left", "row", "numbers"] : List Str).Nodup by decide +kernel) rfl (by first | exact Or.inl rfl | exact Or.inr rfl) (by first | exact Or.inl rfl | exact Or.inr rfl)), tf_nil, (ev_mul (Ev.r (vv 0)) (Ev.r (ev_abs rfl T.b_abs (ar_cons (Ev.r (vv 4)) ar_nil))))⟩) sc_raised_to_edge.nd)
      (bv_cons (sv_append 5 (ev_if (ts_gt (Ev.r (vv 3)) (Ev.r ev_int)) (vv 4) (ev_neg (Ev.r (vv 4)))))
      (bv_cons (sv_append 5 (ev_mul (Ev.r (ev_item (Ev.r (vv 2)) (Ev.r ev_int))) (Ev.r (ev_abs rfl T.b_abs (ar_cons (Ev.r (vv 3)) ar_nil)))))
      (bv_cons (sv_fix 5 (sv_set 6 sc_raised_to_edge.nd (ev_call h_shortened (hr.mono (by decide)) (av_cons (vv 5) av_nil))))
      (bv_one (sv_ret (ev_tup (av_cons (ev_slice (Ev.r (vv 6)) ov_none (ov_some (Ev.r (ev_neg (Ev.r ev_int))))) (av_cons (ev_item (Ev.r (vv 6)) (Ev.r (ev_neg (Ev.r ev_int)))) av_nil)))))))))))) ?_
  intro F hF
  intro a b k z p hs hk hz hp sz sp' W hW
  rw [hF _ rfl]
  refine bo ?_
  show seqO _ _ [some (.sh (bD z)), some (.sh (.int W)), some (.sh (bD p)), none, none, none, none] = _
  have e1 : ixD (rowD z.1) (.int (W - 1)) = some (.int (lastB z)) := by
    show atI (z.1.map D.int) (W - 1) = _
    rw [show W - 1 = (k : Int) by omega, atI_row (by first | assumption | exact Nat.le_trans few (by decide) | exact Nat.le_trans Y.few (by decide) | omega), last_nth hz]
  have e2 : sliceD (rowD z.1) none (some (W - 1)) = some (rowD z.1.dropLast) := by
    rw [show W - 1 = (k : Int) by omega, row_take, List.dropLast_eq_take, hz]
    rfl
  have e3 := sp_product (a + b) z.1.dropLast p.1 (by first | assumption | exact Nat.le_trans few (by decide) | exact Nat.le_trans Y.few (by decide) | omega) (fun i hi => (sz.row i (List.dropLast_subset _ hi)).mono (by first | assumption | exact Nat.le_trans few (by decide) | exact Nat.le_trans Y.few (by decide) | omega)) (fun i hi => (sp'.row i hi).mono (by first | assumption | exact Nat.le_trans few (by decide) | exact Nat.le_trans Y.few (by decide) | omega)) (by simp; omega) (rowD z.1.dropLast) (rowD p.1) rfl rfl
  have cm := sz.lim.cmul sp'.lim (by first | assumption | exact Nat.le_trans few (by decide) | exact Nat.le_trans Y.few (by decide) | omega) (by first | assumption | exact Nat.le_trans few (by decide) | exact Nat.le_trans Y.few (by decide) | omega)
  have hsz := edge_sm sz sp' hz hk
  have e4 := sp_shortened (edgeRow p z) (fun i hi => (hsz i hi).mono hs) (by simp [edgeRow, ptOf]; omega)
  have hl := last_mem sz
  have al : (if lastB z < 0 then -lastB z else lastB z) = (edgeT p z).2 := rfl
  have sl : Sm a (edgeT p z).2 := by
    rw [← al]
    split
    · exact hl.neg
    · exact hl
  have e5 : (edgeRow p z).map D.int = ((p.1.map fun i => i * (edgeT p z).2).map D.int ++ [.int (edgeT p z).1]) ++ [.int (p.2 * (edgeT p z).2)] := by simp [edgeRow, ptOf]
  rw [e5] at e4
  have cm2 := sp'.lim.cmul sl (by first | assumption | exact Nat.le_trans few (by decide) | exact Nat.le_trans Y.few (by decide) | omega) (by first | assumption | exact Nat.le_trans few (by decide) | exact Nat.le_trans Y.few (by decide) | omega)
  have e6 : (if 0 < lastB z then restB p z else -restB p z) = (edgeT p z).1 := rfl
  have hne : shortL (edgeRow p z) ≠ [] := by
    intro h
    have := congrArg List.length h
    rw [short_len] at this
    simp [edgeRow] at this
  refine sq_set (.int (lastB z)) (by simp [e1]) ?_
  dsimp only [List.set]
  refine sq_set (.int (restB p z)) (by simp [e2, e3, cm, restB]) ?_
  dsimp only [List.set]
  refine sq_own ((p.1.map fun i => i * (edgeT p z).2).map D.int) ?_ ?_
  · rw [List.map_map]
    refine compD_map' D.int (as := p.1) (h := D.int ∘ fun i => i * (edgeT p z).2) (by simp [rowD, seqD]) (fun i hi => ?_) (by first | assumption | exact Nat.le_trans few (by decide) | exact Nat.le_trans Y.few (by decide) | omega)
    have c1 := (sp'.row i hi).cmul sl (by first | assumption | exact Nat.le_trans few (by decide) | exact Nat.le_trans Y.few (by decide) | omega) (by first | assumption | exact Nat.le_trans few (by decide) | exact Nat.le_trans Y.few (by decide) | omega)
    rw [← al] at c1 ⊢
    simp [c1]
  dsimp only [List.set]
  refine sq_app ((p.1.map fun i => i * (edgeT p z).2).map D.int) (.int (edgeT p z).1) rfl ?_ (by simp; unfold sizeLine; omega) ?_
  · rw [← e6]
    by_cases h : 0 < lastB z <;> simp [h]
  dsimp only [List.set]
  refine sq_app _ (.int (p.2 * (edgeT p z).2)) rfl ?_ (by simp; unfold sizeLine; omega) ?_
  · rw [← al] at cm2 ⊢
    simp [cm2]
  dsimp only [List.set]
  have l1 := row_last hne
  have l2 := row_init hne
  have e7 : bD (edgeP p z) = .tup [rowD (shortL (edgeRow p z)).dropLast, .int ((shortL (edgeRow p z)).getLastD 0)] := rfl
  rw [e7]
  generalize shortL (edgeRow p z) = S at e4 l1 l2
  generalize ((p.1.map fun i => i * (edgeT p z).2).map D.int ++ [.int (edgeT p z).1]) ++ [.int (p.2 * (edgeT p z).2)] = R at e4
  refine sq (ρ' := [some (.sh (bD z)), some (.sh (.int W)), some (.sh (bD p)), some (.sh (.int (lastB z))), some (.sh (.int (restB p z))), some (.sh (.lst R)), some (.sh (rowD S))]) (by simp [e4]) ?_
  generalize S.getLastD 0 = x at l1
  generalize S.dropLast = y at l2
  simp [l1, l2, fitOk]
set_option maxHeartbeats 1000000 in
theorem ok_raised {f : Addr} {fd : FuncData} (T : Txt mg) (Fn : Fun K "raised" "raised" s_raised f fd) (hm : mg "raised" = some (.ref f)) (hB : Binds K fd ["yard", "wide", "point"] []) {F_raised_to_edge : List D → Option D} (h_raised_to_edge : FnD P w K mg base 3 "raised_to_edge" ["bound", "wide", "point"] F_raised_to_edge) (sp_raised_to_edge : spec_raised_to_edge F_raised_to_edge) {F_kept : List D → Option D} (h_kept : FnD P w K mg base 3 "kept" ["bounds", "point"] F_kept) (sp_kept : spec_kept F_kept)  :
    ∃ F, FnD P w K mg base 4 "raised" ["yard", "wide", "point"] F ∧ spec_raised F := by
  refine fn_sp spec_raised Fn sc_raised hm hB (fun cdv A outer s H E hr => (bv_cons (sv_own 3 sc_raised.nd (fv_lst (av_cons (ev_tup (av_cons (ev_add (Ev.r (ev_item (Ev.r (vv 2)) (Ev.r ev_int))) (Ev.r (ev_tup (av_cons ev_int av_nil)))) (av_cons (ev_item (Ev.r (vv 2)) (Ev.r ev_int)) av_nil))) av_nil)))
      (bv_cons (sv_extend 3 (fv_comp (ns := ["bound"]) rfl (compScope (fs := (defScope s_raised)) (N := ["yard", "wide", "point", "tried", "candidate"]) rfl rfl (by decide +kernel)) (ir_seq (Ev.r (vv 0))) bindC1 (fun _ _ _ => ⟨(pg_name (i := 0) (show (["bound", "yard", "wide", "point", "tried", "candidate"] : List Str).Nodup by decide +kernel) rfl (by first | exact Or.inl rfl | exact Or.inr rfl) (by first | exact Or.inl rfl | exact Or.inr rfl)), (tf_one (ts_ne hr (Ev.r (ev_item (Ev.r (ev_item (Ev.r (vv 0)) (Ev.r ev_int))) (Ev.r (ev_sub (Ev.r (vv 2)) (Ev.r ev_int))))) (Ev.r ev_int))), (ev_call h_raised_to_edge (hr.mono (by decide)) (av_cons (vv 0) (av_cons (vv 2) (av_cons (vv 3) av_nil))))⟩)))
      (bv_cons (sv_fix 3 (sv_for PassesOwn.never rfl (iv_seq (vv 3)) (pg_name (i := 4) sc_raised.nd rfl (by first | exact Or.inl rfl | exact Or.inr rfl)) bindS1 (bv_one (sv_if (ts_tru (Ev.r (ev_call h_kept (hr.mono (by decide)) (av_cons (vv 0) (av_cons (vv 4) av_nil))))) (bv_one (sv_ret (vv 4))) bv_nil))))
      (bv_one (sv_ret ev_non)))))) ?_
  intro F hF
  intro a b k zs p hs hk hl hz hzl hpl sp' W hW Z hZ
  rw [hF _ rfl]
  refine bo ?_
  show seqO _ _ [some (.sh Z), some (.sh (.int W)), some (.sh (bD p)), none, none] = _
  have e0 := add_nil (a := p.1) (by first | assumption | exact Nat.le_trans few (by decide) | exact Nat.le_trans Y.few (by decide) | omega)
  refine sq_own [bD (p.1 ++ [0], p.2)] (by rw [show bD (p.1 ++ [0], p.2) = .tup [rowD (p.1 ++ [0]), .int p.2] from rfl]; simp [e0, fitOk]) ?_
  dsimp only [List.set]
  refine sq_ext [bD (p.1 ++ [0], p.2)] (((zs.filter fun z => decide (lastB z ≠ 0)).map (edgeP p)).map bD) rfl ?_ (by have := List.length_filter_le (fun z => decide (lastB z ≠ 0)) zs; simp only [List.length_map, List.length_singleton]; unfold sizeLine; omega) ?_
  · rw [List.map_map]
    refine compD_filter' bD (as := zs) (h := bD ∘ edgeP p) (p := fun z => decide (lastB z ≠ 0)) (by simp [hZ]) (fun z hm => ?_) (fun z hm _ => ?_) (by first | assumption | exact Nat.le_trans few (by decide) | exact Nat.le_trans Y.few (by decide) | omega)
    · have e1 : ixD (rowD z.1) (.int (W - 1)) = some (.int (lastB z)) := by
        show atI (z.1.map D.int) (W - 1) = _
        have := hzl z hm
        rw [show W - 1 = (k : Int) by omega, atI_row (by first | assumption | exact Nat.le_trans few (by decide) | exact Nat.le_trans Y.few (by decide) | omega), last_nth (hzl z hm)]
      have e2 : (!(lastB z == 0)) = decide (lastB z ≠ 0) := by by_cases h : lastB z = 0 <;> simp [h]
      simp [e1, e2]
    · have e3 := sp_raised_to_edge a b k z p hs hk (hzl z hm) hpl (hz z hm) sp' W hW
      simp [e3]
  dsimp only [List.set]
  have ec : [bD (p.1 ++ [0], p.2)] ++ (((zs.filter fun z => decide (lastB z ≠ 0)).map (edgeP p)).map bD) = (cands p zs).map bD := rfl
  rw [ec]
  refine sq_fix _ (by rfl) ?_
  dsimp only [List.set]
  have hcs : ∀ q ∈ cands p zs, SmP (a + b + 2) q := fun q hq => cand_sm hz sp' hzl hpl hk hq
  unfold raisedM
  refine sq_find bD bD (cands p zs) (fun q => zs.all fun z => keepB z q) (fun ρ => ∃ x, ρ = [some (.sh Z), some (.sh (.int W)), some (.sh (bD p)), some (.sh (.lst ((cands p zs).map bD))), x]) rfl ⟨_, rfl⟩ (fun q hq ρ h => ?_) (fun q hq => by rw [hq]; rfl) (fun hq ρ' h => by
    obtain ⟨x, rfl⟩ := h
    rw [hq]
    rfl)
  · skip
    obtain ⟨x, rfl⟩ := h
    refine ⟨_, rfl, fun hp => ?_, fun hp => ?_⟩
    · have ek := sp_kept (a + b + 2) zs q (by first | assumption | exact Nat.le_trans few (by decide) | exact Nat.le_trans Y.few (by decide) | omega) (fun z hm => ⟨fun i hi => ((hz z hm).row i hi).mono (by first | assumption | exact Nat.le_trans few (by decide) | exact Nat.le_trans Y.few (by decide) | omega), (hz z hm).lim.mono (by first | assumption | exact Nat.le_trans few (by decide) | exact Nat.le_trans Y.few (by decide) | omega), (hz z hm).len⟩) (hcs q hq) (by first | assumption | exact Nat.le_trans few (by decide) | exact Nat.le_trans Y.few (by decide) | omega) Z hZ
      rw [hp] at ek
      dsimp only [List.set]
      refine it_t (by simp [ek]) (by simp)
    · have ek := sp_kept (a + b + 2) zs q (by first | assumption | exact Nat.le_trans few (by decide) | exact Nat.le_trans Y.few (by decide) | omega) (fun z hm => ⟨fun i hi => ((hz z hm).row i hi).mono (by first | assumption | exact Nat.le_trans few (by decide) | exact Nat.le_trans Y.few (by decide) | omega), (hz z hm).lim.mono (by first | assumption | exact Nat.le_trans few (by decide) | exact Nat.le_trans Y.few (by decide) | omega), (hz z hm).len⟩) (hcs q hq) (by first | assumption | exact Nat.le_trans few (by decide) | exact Nat.le_trans Y.few (by decide) | omega) Z hZ
      rw [hp] at ek
      dsimp only [List.set]
      exact ⟨_, it_f (by simp [ek]) rfl, _, rfl⟩
set_option maxHeartbeats 1000000 in
theorem ok_cancelling_levels {f : Addr} {fd : FuncData} (T : Txt mg) (Fn : Fun K "cancelling_levels" "cancelling_levels" s_cancelling_levels f fd) (hm : mg "cancelling_levels" = some (.ref f)) (hB : Binds K fd ["bounds", "wide"] []) {F_all_single_weights : List D → Option D} (h_all_single_weights : FnD P w K mg base 2 "all_single_weights" ["many"] F_all_single_weights) (sp_all_single_weights : spec_all_single_weights F_all_single_weights) {F_cancelled : List D → Option D} (h_cancelled : FnD P w K mg base 4 "cancelled" ["weightings", "column", "most"] F_cancelled) (sp_cancelled : spec_cancelled F_cancelled) {F_numbers_at : List D → Option D} (h_numbers_at : FnD P w K mg base 1 "numbers_at" ["bounds", "place"] F_numbers_at) (sp_numbers_at : spec_numbers_at F_numbers_at)  :
    ∃ F, FnD P w K mg base 5 "cancelling_levels" ["bounds", "wide"] F ∧ spec_cancelling_levels F := by
  refine fn_sp spec_cancelling_levels Fn sc_cancelling_levels hm hB (fun cdv A outer s H E hr => (bv_cons (sv_own 2 sc_cancelling_levels.nd (fv_lst (av_cons (ev_call h_all_single_weights (hr.mono (by decide)) (av_cons (ev_len rfl T.b_len (ar_cons (Ev.r (vv 0)) ar_nil)) av_nil)) av_nil)))
      (bv_cons (sv_for PassesOwn.never rfl (iv_range1 rfl T.b_range (ar_cons (Ev.r (vv 1)) ar_nil)) (pg_name (i := 3) sc_cancelling_levels.nd rfl (by first | exact Or.inl rfl | exact Or.inr rfl)) bindS1 (bv_one (sv_append 2 (ev_call h_cancelled (hr.mono (by decide)) (av_cons (ev_item (vr 2) (Ev.r (vv 3))) (av_cons (ev_call h_numbers_at (hr.mono (by decide)) (av_cons (vv 0) (av_cons (ev_sub (Ev.r (ev_sub (Ev.r (vv 1)) (Ev.r ev_int))) (Ev.r (vv 3))) av_nil))) (av_cons (ev_add (Ev.r (vv 3)) (Ev.r ev_int)) av_nil)))))))
      (bv_one (sv_retO (i := 2)))))) ?_
  intro F hF
  intro ys ms n w hc hy hw hl hn W hW Y hY
  rw [hF _ rfl]
  refine bo ?_
  show seqO _ _ [some (.sh Y), some (.sh (.int W)), none, none] = _
  have e0 := sp_all_single_weights ys.length (by first | assumption | exact Nat.le_trans few (by decide) | exact Nat.le_trans Y.few (by decide) | omega)
  have e1 := len_seq hY
  rw [List.length_map] at e1
  refine sq_own [lvD ys w 0] ?_ ?_
  · have e2 : lvD ys w 0 = .lst ((singles ys.length).map rowD) := rfl
    rw [e2]
    generalize (singles ys.length).map rowD = S at e0
    generalize (ys.length : Int) = m at e0 e1
    simp [e0, e1]
  dsimp only [List.set]
  refine sq_for (fun k : Nat => D.int (k : Int)) (List.range w) (invLv Y W ys w) ?_ ⟨_, rfl⟩ (fun pre k post ρ e h => ?_) (fun ρ h => ?_)
  · exact rngk_b rfl (by first | assumption | exact Nat.le_trans few (by decide) | exact Nat.le_trans Y.few (by decide) | omega) hW
  · obtain ⟨x, rfl⟩ := h
    obtain ⟨hk, hkw⟩ := range_at e
    subst hk
    refine ⟨_, rfl, ?_⟩
    dsimp only [List.set]
    have k2 : pre.length ≤ 2 := by omega
    have s2 := sz_le n k2
    have q1 := lv_at (ys := ys) (w := w) (m := pre.length + 1) (k := pre.length) (W := (pre.length : Int)) (by first | assumption | exact Nat.le_trans few (by decide) | exact Nat.le_trans Y.few (by decide) | omega) rfl
    have q2 := sp_numbers_at ys (w - 1 - pre.length) (fun y hm => by rw [hy y hm]; omega) (by first | assumption | exact Nat.le_trans few (by decide) | exact Nat.le_trans Y.few (by decide) | omega) Y hY
    have q3 := sp_cancelled (szN n pre.length) n ys.length (pre.length + 2) (lvM ys w pre.length) (colY ys (w - 1 - pre.length)) (by first | assumption | exact Nat.le_trans few (by decide) | exact Nat.le_trans Y.few (by decide) | omega) (by first | assumption | exact Nat.le_trans few (by decide) | exact Nat.le_trans Y.few (by decide) | omega) (fun v hv => ⟨((lv_ok ys w pre.length).cn v hv).wt.len, hc.wt hv⟩) (by simp [colY]) (fun i hi => by
      obtain ⟨y, hm, rfl⟩ := List.mem_map.mp hi
      exact getD_sm (hc.sm (fun y hm => by rw [hy y hm]; omega) y hm).row) (by have := lv_count' w hl k2; omega)
    have q4 : (((w - 1 - pre.length : Nat)) : Int) = W - 1 - (pre.length : Int) := by omega
    rw [q4] at q2
    have q5 : (((pre.length + 2 : Nat)) : Int) = (pre.length : Int) + 2 := by omega
    rw [q5] at q3
    have q6 : D.lst ((cancM (lvM ys w pre.length) (colY ys (w - 1 - pre.length)) (pre.length + 2)).map rowD) = lvD ys w (pre.length + 1) := rfl
    rw [q6] at q3
    have q7 : D.lst ((lvM ys w pre.length).map rowD) = lvD ys w pre.length := rfl
    rw [q7] at q3
    refine ⟨_, app_at _ (lvD ys w (pre.length + 1)) rfl ?_ (by simp; unfold sizeLine; omega), some (.sh (.int (pre.length : Int))), ?_⟩
    · generalize lvD ys w (pre.length + 1) = X1 at q3
      generalize lvD ys w pre.length = X0 at q1 q3
      generalize (colY ys (w - 1 - pre.length)).map D.int = CC at q2 q3
      generalize (List.range (pre.length + 1)).map (lvD ys w) = LL at q1
      generalize (pre.length : Int) = K at q1 q2 q3
      simp [q1, q2, q3]
    · dsimp only [List.set]
      rw [List.length_append, List.length_singleton, List.range_succ (n := pre.length + 1), List.map_append]
      rfl
  · obtain ⟨x, rfl⟩ := h
    rw [List.length_range]
    rfl
set_option maxHeartbeats 1000000 in
theorem ok_first_clash {f : Addr} {fd : FuncData} (T : Txt mg) (Fn : Fun K "first_clash" "first_clash" s_first_clash f fd) (hm : mg "first_clash" = some (.ref f)) (hB : Binds K fd ["bounds", "weightings"] []) {F_weighted_limit : List D → Option D} (h_weighted_limit : FnD P w K mg base 2 "weighted_limit" ["bounds", "weights"] F_weighted_limit) (sp_weighted_limit : spec_weighted_limit F_weighted_limit)  :
    ∃ F, FnD P w K mg base 3 "first_clash" ["bounds", "weightings"] F ∧ spec_first_clash F := by
  refine fn_sp spec_first_clash Fn sc_first_clash hm hB (fun cdv A outer s H E hr => (bv_cons (sv_for PassesOwn.never rfl (iv_seq (vv 1)) (pg_name (i := 2) sc_first_clash.nd rfl (by first | exact Or.inl rfl | exact Or.inr rfl)) bindS1 (bv_one (sv_if (ts_lt (Ev.r (ev_call h_weighted_limit (hr.mono (by decide)) (av_cons (vv 0) (av_cons (vv 2) av_nil)))) (Ev.r ev_int)) (bv_one (sv_ret (vv 2))) bv_nil)))
      (bv_one (sv_ret ev_non)))) ?_
  intro F hF
  intro n ys L hn hy hL hl Y hY
  rw [hF _ rfl]
  refine bo ?_
  show seqO _ _ [some (.sh Y), some (.sh (.lst (L.map rowD))), none] = _
  refine sq_find rowD rowD L (fun v => decide (wLim ys v < 0)) (fun ρ => ∃ x, ρ = [some (.sh Y), some (.sh (.lst (L.map rowD))), x]) rfl ⟨_, rfl⟩ (fun v hv ρ h => ?_) (fun q hq => by rw [hq]; rfl) (fun hq ρ' h => by
    obtain ⟨x, rfl⟩ := h
    rw [hq]
    rfl)
  · skip
    obtain ⟨x, rfl⟩ := h
    have e1 := sp_weighted_limit n ys v hn hy (hL v hv).2 hl (hL v hv).1 Y hY
    refine ⟨_, rfl, fun hp => ?_, fun hp => ?_⟩
    · dsimp only [List.set]
      refine it_t (by simp [e1, hp]) (by simp)
    · dsimp only [List.set]
      exact ⟨_, it_f (by simp [e1, hp]) rfl, _, rfl⟩
set_option maxHeartbeats 1000000 in
theorem ok_point_in {f : Addr} {fd : FuncData} (T : Txt mg) (Fn : Fun K "point_in" "point_in" s_point_in f fd) (hm : mg "point_in" = some (.ref f)) (hB : Binds K fd ["yard", "wide"] []) {F_cancelling_levels : List D → Option D} (h_cancelling_levels : FnD P w K mg base 5 "cancelling_levels" ["bounds", "wide"] F_cancelling_levels) (sp_cancelling_levels : spec_cancelling_levels F_cancelling_levels) {F_first_clash : List D → Option D} (h_first_clash : FnD P w K mg base 3 "first_clash" ["bounds", "weightings"] F_first_clash) (sp_first_clash : spec_first_clash F_first_clash) {F_weighted : List D → Option D} (h_weighted : FnD P w K mg base 3 "weighted" ["bounds", "weights", "wide"] F_weighted) (sp_weighted : spec_weighted F_weighted) {F_raised : List D → Option D} (h_raised : FnD P w K mg base 4 "raised" ["yard", "wide", "point"] F_raised) (sp_raised : spec_raised F_raised)  :
    ∃ F, FnD P w K mg base 6 "point_in" ["yard", "wide"] F ∧ spec_point_in F := by
  refine fn_sp spec_point_in Fn sc_point_in hm hB (fun cdv A outer s H E hr => (bv_cons (sv_set 2 sc_point_in.nd (ev_call h_cancelling_levels (hr.mono (by decide)) (av_cons (vv 0) (av_cons (vv 1) av_nil))))
      (bv_cons (sv_if (ts_notN (Ev.r (ev_call h_first_clash (hr.mono (by decide)) (av_cons (vv 0) (av_cons (ev_item (Ev.r (vv 2)) (Ev.r (vv 1))) av_nil)))) (Ev.r ev_non)) (bv_one (sv_ret ev_non)) bv_nil)
      (bv_cons (sv_set 3 sc_point_in.nd (ev_tup (av_cons (ev_tup av_nil) (av_cons ev_int av_nil))))
      (bv_cons (sv_for PassesOwn.never rfl (iv_range2 rfl T.b_range (ar_cons (Ev.r ev_int) (ar_cons (Ev.r (ev_add (Ev.r (vv 1)) (Ev.r ev_int))) ar_nil))) (pg_name (i := 4) sc_point_in.nd rfl (by first | exact Or.inl rfl | exact Or.inr rfl)) bindS1 (bv_cons (sv_compS 5 (ns := ["weights"]) rfl (compScope (fs := (defScope s_point_in)) (N := ["yard", "wide", "levels", "point", "known", "bounds"]) rfl rfl (by decide +kernel)) (ir_seq (Ev.r (ev_item (Ev.r (vv 2)) (Ev.r (ev_sub (Ev.r (vv 1)) (Ev.r (vv 4))))))) bindC1 (fun _ _ _ => ⟨(pg_name (i := 0) (show (["weights", "yard", "wide", "levels", "point", "known", "bounds"] : List Str).Nodup by decide +kernel) rfl (by first | exact Or.inl rfl | exact Or.inr rfl) (by first | exact Or.inl rfl | exact Or.inr rfl)), tf_nil, (ev_call h_weighted (hr.mono (by decide)) (av_cons (vv 1) (av_cons (vv 0) (av_cons (vv 5) av_nil))))⟩) sc_point_in.nd)
      (bv_one (sv_set 3 sc_point_in.nd (ev_call h_raised (hr.mono (by decide)) (av_cons (vv 5) (av_cons (vv 4) (av_cons (vv 3) av_nil))))))))
      (bv_one (sv_ret (vv 3)))))))) ?_
  intro F hF
  intro ys ms n w hc hy hw hl hn W hW
  rw [hF _ rfl]
  refine ax_do ?_
  show Ans (seqO _ _ [some (.sh (yD ys)), some (.sh (.int W)), none, none, none, none]) _
  have sy := hc.sm (fun y hm => by rw [hy y hm]; omega)
  have e1 := sp_cancelling_levels ys ms n w hc hy hw hl hn W hW (yD ys) rfl
  have e2 := lv_at (ys := ys) (w := w) (m := w + 1) (k := w) (W := W) (by first | assumption | exact Nat.le_trans few (by decide) | exact Nat.le_trans Y.few (by decide) | omega) hW
  have s3 := sz_le3 n hw
  have e3 := sp_first_clash (4 * n + 7) ys (lvM ys w w) (by first | assumption | exact Nat.le_trans few (by decide) | exact Nat.le_trans Y.few (by decide) | omega) (fun y hm => (sy y hm).lim.mono (by first | assumption | exact Nat.le_trans few (by decide) | exact Nat.le_trans Y.few (by decide) | omega)) (fun v hv => ⟨by have := ((lv_ok ys w w).cn v hv).wt.len; omega, fun i hi => (hc.wt hv i hi).mono s3⟩) (by first | assumption | exact Nat.le_trans few (by decide) | exact Nat.le_trans Y.few (by decide) | omega) (yD ys) rfl
  have e4 : D.lst ((lvM ys w w).map rowD) = lvD ys w w := rfl
  rw [e4] at e3
  have e5 : ∀ k : Nat, k < w → ixD (.lst ((List.range (w + 1)).map (lvD ys w))) (.int (W - (1 + (k : Int)))) = some (lvD ys w (w - (k + 1))) := fun k hk => lv_at (by first | assumption | exact Nat.le_trans few (by decide) | exact Nat.le_trans Y.few (by decide) | omega) (by first | assumption | exact Nat.le_trans few (by decide) | exact Nat.le_trans Y.few (by decide) | omega)
  generalize (List.range (w + 1)).map (lvD ys w) = LL at e1 e2 e5
  refine ax_set (.lst LL) (by simp [e1]) ?_
  dsimp only [List.set]
  cases hf : (lvM ys w w).find? fun v => decide (wLim ys v < 0) with
  | some v =>
    have hm := List.mem_of_find?_eq_some hf
    have hlt := of_decide_eq_true (List.find?_some (p := fun v => decide (wLim ys v < 0)) hf)
    rw [hf] at e3
    have e3 : F_first_clash [yD ys, lvD ys w w] = some (rowD v) := e3
    refine ax_ift .non (by simp [e2, e3]) rfl (.inr ⟨rfl, fun p hp hi => ?_⟩)
    exact no_clash hy (lv_clash (lv_ok ys w w) hm hlt) hp hi
  | none =>
    rw [hf] at e3
    have e3 : F_first_clash [yD ys, lvD ys w w] = some .non := e3
    have hnn : ∀ v ∈ lvM ys w w, 0 ≤ wLim ys v := fun v hv => by
      have := List.find?_eq_none.mp hf v hv
      simp at this
      exact this
    refine ax_if (by simp [e2, e3]) ?_
    refine ax_set (bD ([], 1)) (by simp [bD, rowD, fitOk]) ?_
    dsimp only [List.set]
    refine ax_for (fun k : Nat => D.int (1 + (k : Int))) (List.range w) (invP (yD ys) (.lst LL) W ys n w) ?_ ⟨([], 1), _, _, rfl, ⟨rfl, by decide⟩, zero_in hnn, ⟨fun i hi => (by cases hi), show Sm 1 1 from Sm.lit (by decide), by simp⟩⟩ (fun pre k post ρ e h => ?_) (fun ρ h => ?_)
    · exact rng1_b rfl rfl (by first | assumption | exact Nat.le_trans few (by decide) | exact Nat.le_trans Y.few (by decide) | omega) hW
    · obtain ⟨p, x, y, rfl, hp, hi, hs⟩ := h
      obtain ⟨hk, hkw⟩ := range_at e
      subst hk
      refine ⟨_, rfl, ?_⟩
      dsimp only [List.set]
      obtain ⟨q, r1, r2, r3, r4⟩ := up_ok hc hy hw hkw hp hi hs
      have k2 : w - (pre.length + 1) ≤ 2 := by omega
      have bz1 := sz_le n k2
      have bz2 := bN_le (n := n) hw (show pre.length + 1 ≤ w by omega)
      have bz3 : bN n w (pre.length + 1) = szN n (w - (pre.length + 1)) + bN n w pre.length + 2 := rfl
      have f1 := sp_raised (szN n (w - (pre.length + 1))) (bN n w pre.length) pre.length (zsF ys (lvM ys w (w - (pre.length + 1))) (pre.length + 1)) p (by first | assumption | exact Nat.le_trans few (by decide) | exact Nat.le_trans Y.few (by decide) | omega) (by first | assumption | exact Nat.le_trans few (by decide) | exact Nat.le_trans Y.few (by decide) | omega) (by have := lv_count' w hl k2; simp [zsF]; omega) (hc.zs (by first | assumption | exact Nat.le_trans few (by decide) | exact Nat.le_trans Y.few (by decide) | omega)) zs_len hp.len hs (1 + (pre.length : Int)) (by first | assumption | exact Nat.le_trans few (by decide) | exact Nat.le_trans Y.few (by decide) | omega) (.lst ((zsF ys (lvM ys w (w - (pre.length + 1))) (pre.length + 1)).map bD)) rfl
      rw [r1] at f1
      refine ⟨[some (.sh (yD ys)), some (.sh (.int W)), some (.sh (.lst LL)), some (.sh (bD q)), some (.sh (.int (1 + (pre.length : Int)))), some (.sh (.lst ((zsF ys (lvM ys w (w - (pre.length + 1))) (pre.length + 1)).map bD)))], ?_, q, _, _, rfl, by rw [List.length_append]; exact r2, by rw [List.length_append]; exact r3, by rw [List.length_append]; exact r4⟩
      refine sq_comp ((zsF ys (lvM ys w (w - (pre.length + 1))) (pre.length + 1)).map bD) ?_ ?_
      · unfold zsF
        rw [List.map_map]
        refine compD_map' rowD (as := lvM ys w (w - (pre.length + 1))) (h := bD ∘ fun v => (wRow ys v (pre.length + 1), wLim ys v)) ?_ (fun v hv => ?_) (by have := lv_count' w hl k2; omega)
        · have g := e5 pre.length hkw
          have g2 : lvD ys w (w - (pre.length + 1)) = .lst ((lvM ys w (w - (pre.length + 1))).map rowD) := rfl
          rw [g2] at g
          generalize (lvM ys w (w - (pre.length + 1))).map rowD = MM at g
          simp [g, seqD]
        · have g := sp_weighted (2 * n + 3) ys v (pre.length + 1) (by first | assumption | exact Nat.le_trans few (by decide) | exact Nat.le_trans Y.few (by decide) | omega) (fun y hm => ⟨⟨fun i hi => ((sy y hm).row i hi).mono (by first | assumption | exact Nat.le_trans few (by decide) | exact Nat.le_trans Y.few (by decide) | omega), (sy y hm).lim.mono (by first | assumption | exact Nat.le_trans few (by decide) | exact Nat.le_trans Y.few (by decide) | omega), (sy y hm).len⟩, by rw [hy y hm]; omega⟩) (fun i hi => (hc.wt hv i hi).mono bz1) (by first | assumption | exact Nat.le_trans few (by decide) | exact Nat.le_trans Y.few (by decide) | omega) (by first | assumption | exact Nat.le_trans few (by decide) | exact Nat.le_trans Y.few (by decide) | omega) (by have := ((lv_ok ys w (w - (pre.length + 1))).cn v hv).wt.len; omega) (yD ys) rfl
          rw [show (((pre.length + 1 : Nat)) : Int) = 1 + (pre.length : Int) by omega] at g
          show _ = some (bD (wRow ys v (pre.length + 1), wLim ys v))
          generalize bD (wRow ys v (pre.length + 1), wLim ys v) = B at g ⊢
          simp [g]
      · dsimp only [List.set]
        generalize (zsF ys (lvM ys w (w - (pre.length + 1))) (pre.length + 1)).map bD = ZZ at f1
        have f1 : F_raised [.lst ZZ, .int (1 + (pre.length : Int)), bD p] = some (bD q) := f1
        simp [f1]
    · obtain ⟨p, x, y, rfl, hp, hi, hs⟩ := h
      rw [List.length_range] at hp hi hs
      rw [Nat.sub_self] at hi
      have hi : InY (zsF ys (singles ys.length) w) p := hi
      rw [zsF_single hy] at hi
      have b2 := bN_le (n := n) hw (Nat.le_refl w)
      exact ax_ret (bD p) (by simp) (.inl ⟨p, rfl, hp, hi, ⟨fun i hi => (hs.row i hi).mono b2, hs.lim.mono b2, hs.len⟩⟩)
set_option maxHeartbeats 1000000 in
theorem ok_clash {f : Addr} {fd : FuncData} (T : Txt mg) (Fn : Fun K "clash" "clash" s_clash f fd) (hm : mg "clash" = some (.ref f)) (hB : Binds K fd ["yard", "wide"] []) {F_first_clash : List D → Option D} (h_first_clash : FnD P w K mg base 3 "first_clash" ["bounds", "weightings"] F_first_clash) (sp_first_clash : spec_first_clash F_first_clash) {F_cancelling_levels : List D → Option D} (h_cancelling_levels : FnD P w K mg base 5 "cancelling_levels" ["bounds", "wide"] F_cancelling_levels) (sp_cancelling_levels : spec_cancelling_levels F_cancelling_levels)  :
    ∃ F, FnD P w K mg base 6 "clash" ["yard", "wide"] F ∧ spec_clash F := by
  refine fn_sp spec_clash Fn sc_clash hm hB (fun cdv A outer s H E hr => (bv_one (sv_ret (ev_call h_first_clash (hr.mono (by decide)) (av_cons (vv 0) (av_cons (ev_item (Ev.r (ev_call h_cancelling_levels (hr.mono (by decide)) (av_cons (vv 0) (av_cons (vv 1) av_nil)))) (Ev.r (vv 1))) av_nil)))))) ?_
  intro F hF
  intro ys ms n w hc hy hw hl hn W hW
  rw [hF _ rfl]
  refine ax_do ?_
  show Ans (b1 _ _ [some (.sh (yD ys)), some (.sh (.int W))]) _
  have sy := hc.sm (fun y hm => by rw [hy y hm]; omega)
  have e1 := sp_cancelling_levels ys ms n w hc hy hw hl hn W hW (yD ys) rfl
  have e2 := lv_at (ys := ys) (w := w) (m := w + 1) (k := w) (W := W) (by first | assumption | exact Nat.le_trans few (by decide) | exact Nat.le_trans Y.few (by decide) | omega) hW
  have s3 := sz_le3 n hw
  have e3 := sp_first_clash (4 * n + 7) ys (lvM ys w w) (by first | assumption | exact Nat.le_trans few (by decide) | exact Nat.le_trans Y.few (by decide) | omega) (fun y hm => (sy y hm).lim.mono (by first | assumption | exact Nat.le_trans few (by decide) | exact Nat.le_trans Y.few (by decide) | omega)) (fun v hv => ⟨by have := ((lv_ok ys w w).cn v hv).wt.len; omega, fun i hi => (hc.wt hv i hi).mono s3⟩) (by first | assumption | exact Nat.le_trans few (by decide) | exact Nat.le_trans Y.few (by decide) | omega) (yD ys) rfl
  have e4 : D.lst ((lvM ys w w).map rowD) = lvD ys w w := rfl
  rw [e4] at e3
  refine ax_ret (optR ((lvM ys w w).find? fun v => decide (wLim ys v < 0))) ?_ ?_
  · generalize optR _ = A at e3
    generalize (List.range (w + 1)).map (lvD ys w) = LL at e1 e2
    simp [e1, e2, e3]
  · cases hf : (lvM ys w w).find? fun v => decide (wLim ys v < 0) with
    | some v =>
      have hm := List.mem_of_find?_eq_some hf
      have hlt := of_decide_eq_true (List.find?_some (p := fun v => decide (wLim ys v < 0)) hf)
      exact .inl ⟨v, rfl, lv_clash (lv_ok ys w w) hm hlt, fun i hi => (hc.wt hm i hi).mono s3⟩
    | none =>
      refine .inr ⟨rfl, lv_point hy (lv_ok ys w w) fun v hv => ?_⟩
      have := List.find?_eq_none.mp hf v hv
      simp at this
      exact this
set_option maxHeartbeats 1000000 in
theorem ok_ceilings {f : Addr} {fd : FuncData} (T : Txt mg) (Fn : Fun K "ceilings" "ceilings" s_ceilings f fd) (hm : mg "ceilings" = some (.ref f)) (hB : Binds K fd ["yard", "wide", "aim"] []) {F_turned : List D → Option D} (h_turned : FnD P w K mg base 1 "turned" ["row"] F_turned) (sp_turned : spec_turned F_turned) {F_cancelling_levels : List D → Option D} (h_cancelling_levels : FnD P w K mg base 5 "cancelling_levels" ["bounds", "wide"] F_cancelling_levels) (sp_cancelling_levels : spec_cancelling_levels F_cancelling_levels)  :
    ∃ F, FnD P w K mg base 6 "ceilings" ["yard", "wide", "aim"] F ∧ spec_ceilings F := by
  refine fn_sp spec_ceilings Fn sc_ceilings hm hB (fun cdv A outer s H E hr => (bv_cons (sv_set 3 sc_ceilings.nd (ev_add (Ev.r (vv 0)) (Ev.r (ev_tup (av_cons (ev_tup (av_cons (ev_call h_turned (hr.mono (by decide)) (av_cons (vv 2) av_nil)) (av_cons ev_int av_nil))) av_nil)))))
      (bv_cons (sv_set 4 sc_ceilings.nd (ev_item (Ev.r (ev_call h_cancelling_levels (hr.mono (by decide)) (av_cons (vv 3) (av_cons (vv 1) av_nil)))) (Ev.r (vv 1))))
      (bv_one (sv_ret (Fv.v (fv_comp (ns := ["weights"]) rfl (compScope (fs := (defScope s_ceilings)) (N := ["yard", "wide", "aim", "bounds", "weightings"]) rfl rfl (by decide +kernel)) (ir_seq (Ev.r (vv 4))) bindC1 (fun _ _ _ => ⟨(pg_name (i := 0) (show (["weights", "yard", "wide", "aim", "bounds", "weightings"] : List Str).Nodup by decide +kernel) rfl (by first | exact Or.inl rfl | exact Or.inr rfl) (by first | exact Or.inl rfl | exact Or.inr rfl)), (tf_one (ts_gt (Ev.r (ev_item (Ev.r (vv 0)) (Ev.r (ev_neg (Ev.r ev_int))))) (Ev.r ev_int))), (ev_tup (av_cons (ev_slice (Ev.r (vv 0)) ov_none (ov_some (Ev.r (ev_neg (Ev.r ev_int))))) (av_cons (ev_item (Ev.r (vv 0)) (Ev.r (ev_neg (Ev.r ev_int)))) av_nil)))⟩)))))))) ?_
  intro F hF
  intro w B ys aim Y ha sa hB hB2 W hW
  rw [hF _ rfl]
  refine bo ?_
  show seqO _ _ [some (.sh (yD ys)), some (.sh (.int W)), some (.sh (rowD aim)), none, none] = _
  have few := Y.few
  have whi := Y.hi
  have e1 := sp_turned aim (by first | assumption | exact Nat.le_trans few (by decide) | exact Nat.le_trans Y.few (by decide) | omega)
  have e2 := add_more (ys := ys) (a := aim) (l := 0) (by first | assumption | exact Nat.le_trans few (by decide) | exact Nat.le_trans Y.few (by decide) | omega)
  have cp := more_cap (l := 0) Y.bd hB sa (Sm.lit (by simp; exact Nat.pow_pos (by decide)))
  have hl := more_len (l := 0) Y.len ha
  have e3 := sp_cancelling_levels (oneMore ys aim 0) _ (B + 21) w cp hl whi (by rw [more_count]; omega) hB2 W hW (yD (oneMore ys aim 0)) rfl
  have e4 := lv_at (ys := oneMore ys aim 0) (w := w) (m := w + 1) (k := w) (W := W) (by first | assumption | exact Nat.le_trans few (by decide) | exact Nat.le_trans Y.few (by decide) | omega) hW
  have hL := lv_ok (oneMore ys aim 0) w w
  rw [more_count] at hL
  have hcount := lv_count3 (ys := oneMore ys aim 0) w (by rw [more_count]; omega) whi
  unfold ceilL
  have e5 : lvD (oneMore ys aim 0) w w = .lst ((lvM (oneMore ys aim 0) w w).map rowD) := rfl
  rw [e5] at e4
  generalize (List.range (w + 1)).map (lvD (oneMore ys aim 0) w) = LL at e3 e4
  refine sq_set (yD (oneMore ys aim 0)) ?_ ?_
  · generalize yD (oneMore ys aim 0) = Q at e2
    generalize rowD (aim.map fun i => -i) = R at e1 e2
    generalize yD ys = V at e2
    simp [e1, e2, fitOk]
  dsimp only [List.set]
  refine sq_set (.lst ((lvM (oneMore ys aim 0) w w).map rowD)) ?_ ?_
  · generalize (lvM (oneMore ys aim 0) w w).map rowD = MM at e4
    simp [e3, e4]
  dsimp only [List.set]
  have ne : ∀ v ∈ lvM (oneMore ys aim 0) w w, v ≠ [] := fun v hv h => by
    have := (hL.cn v hv).wt.len
    rw [h] at this
    simp at this
  generalize lvM (oneMore ys aim 0) w w = M at hcount ne
  simp
  generalize hc : compD _ _ _ _ _ = o
  have ec : o = some (((M.filter fun v => decide (0 < v.getLastD 0)).map fun v => (v.dropLast, v.getLastD 0)).map bD) := by
    rw [← hc, List.map_map]
    refine compD_filter' rowD (as := M) (h := bD ∘ fun v => (v.dropLast, v.getLastD 0)) (p := fun v => decide (0 < v.getLastD 0)) rfl (fun v hv => ?_) (fun v hv _ => ?_) (by first | assumption | exact Nat.le_trans few (by decide) | exact Nat.le_trans Y.few (by decide) | omega)
    · have l1 := row_last (ne v hv)
      generalize v.getLastD 0 = x at l1
      simp [l1]
    · have l1 := row_last (ne v hv)
      have l2 := row_init (ne v hv)
      show _ = some (D.tup [rowD v.dropLast, .int (v.getLastD 0)])
      generalize v.getLastD 0 = x at l1
      generalize v.dropLast = y at l2
      simp [l1, l2, fitOk]
  subst ec
  simp
set_option maxHeartbeats 1000000 in
theorem ok_lowest_ceiling {f : Addr} {fd : FuncData} (T : Txt mg) (Fn : Fun K "lowest_ceiling" "lowest_ceiling" s_lowest_ceiling f fd) (hm : mg "lowest_ceiling" = some (.ref f)) (hB : Binds K fd ["yard", "found"] []) {F_weighted_limit : List D → Option D} (h_weighted_limit : FnD P w K mg base 2 "weighted_limit" ["bounds", "weights"] F_weighted_limit) (sp_weighted_limit : spec_weighted_limit F_weighted_limit)  :
    ∃ F, FnD P w K mg base 3 "lowest_ceiling" ["yard", "found"] F ∧ spec_lowest_ceiling F := by
  refine fn_sp spec_lowest_ceiling Fn sc_lowest_ceiling hm hB (fun cdv A outer s H E hr => (bv_cons (sv_set 2 sc_lowest_ceiling.nd (ev_item (Ev.r (vv 1)) (Ev.r ev_int)))
      (bv_cons (sv_for PassesOwn.never rfl (iv_seq (vv 1)) (pg_name (i := 3) sc_lowest_ceiling.nd rfl (by first | exact Or.inl rfl | exact Or.inr rfl)) bindS1 (bv_one (sv_if (ts_lt (Ev.r (ev_mul (Ev.r (ev_call h_weighted_limit (hr.mono (by decide)) (av_cons (vv 0) (av_cons (ev_item (Ev.r (vv 3)) (Ev.r ev_int)) av_nil)))) (Ev.r (ev_item (Ev.r (vv 2)) (Ev.r ev_int))))) (Ev.r (ev_mul (Ev.r (ev_call h_weighted_limit (hr.mono (by decide)) (av_cons (vv 0) (av_cons (ev_item (Ev.r (vv 2)) (Ev.r ev_int)) av_nil)))) (Ev.r (ev_item (Ev.r (vv 3)) (Ev.r ev_int)))))) (bv_one (sv_set 2 sc_lowest_ceiling.nd (vv 3))) bv_nil)))
      (bv_one (sv_ret (vv 2)))))) ?_
  intro F hF
  intro n ys c cs hn hy hl hx
  rw [hF _ rfl]
  refine bo ?_
  show seqO _ _ [some (.sh (yD ys)), some (.sh (.lst ((c :: cs).map bD))), none, none] = _
  refine sq_set (bD c) (by simp [atI_zero]) ?_
  dsimp only [List.set]
  have hpos : ∀ pre, (∀ x ∈ pre, x ∈ c :: cs) → SmP n (lowC ys c pre) := fun pre => by
    have g : ∀ (pre : List (List Int × Int)) (m : List Int × Int), SmP n m → (∀ x ∈ pre, x ∈ c :: cs) → SmP n (lowC ys m pre) := fun pre => by
      induction pre with
      | nil => exact fun m hm _ => hm
      | cons x pre ih =>
        intro m hm hp
        show SmP n (lowC ys (lowStep ys m x) pre)
        refine ih _ ?_ fun z hz => hp z (List.mem_cons_of_mem _ hz)
        unfold lowStep
        split
        · exact hx x (hp x List.mem_cons_self)
        · exact hm
    exact g pre c (hx c List.mem_cons_self)
  have hwl : ∀ x : List Int × Int, SmP n x → F_weighted_limit [yD ys, rowD x.1] = some (.int (wLim ys x.1)) ∧ Sm (n + n + 10) (wLim ys x.1) := fun x sx => ⟨sp_weighted_limit n ys x.1 (by first | assumption | exact Nat.le_trans few (by decide) | exact Nat.le_trans Y.few (by decide) | omega) hy sx.row hl sx.len (yD ys) rfl, lim_sm' hy sx.row sx.len⟩
  generalize hCS : c :: cs = CS at hx hpos
  refine sq_for bD CS (invLow (yD ys) (.lst (CS.map bD)) ys c) rfl ⟨_, rfl⟩ (fun pre x post ρ e h => ?_) (fun ρ h => ?_)
  · obtain ⟨t, rfl⟩ := h
    refine ⟨_, rfl, ?_⟩
    dsimp only [List.set]
    have sx := hx x (by rw [e]; simp)
    have sl := hpos pre (fun z hz => by rw [e]; simp [hz])
    rw [show invLow (yD ys) (.lst (CS.map bD)) ys c (pre ++ [x]) = fun ρ => ∃ t, ρ = [some (.sh (yD ys)), some (.sh (.lst (CS.map bD))), some (.sh (bD (lowStep ys (lowC ys c pre) x))), t] by unfold invLow; rw [low_snoc]]
    generalize lowC ys c pre = lo at sl
    obtain ⟨w1, z1⟩ := hwl x sx
    obtain ⟨w2, z2⟩ := hwl lo sl
    have c1 := z1.cmul sl.lim (by first | assumption | exact Nat.le_trans few (by decide) | exact Nat.le_trans Y.few (by decide) | omega) (by first | assumption | exact Nat.le_trans few (by decide) | exact Nat.le_trans Y.few (by decide) | omega)
    have c2 := z2.cmul sx.lim (by first | assumption | exact Nat.le_trans few (by decide) | exact Nat.le_trans Y.few (by decide) | omega) (by first | assumption | exact Nat.le_trans few (by decide) | exact Nat.le_trans Y.few (by decide) | omega)
    by_cases h : wLim ys x.1 * lo.2 < wLim ys lo.1 * x.2
    · refine ⟨[some (.sh (yD ys)), some (.sh (.lst (CS.map bD))), some (.sh (bD x)), some (.sh (bD x))], ?_, _, by unfold lowStep; rw [if_pos h]⟩
      exact it_t (by simp [w1, w2, c1, c2, h]) (st_set (bD x) (by simp))
    · refine ⟨[some (.sh (yD ys)), some (.sh (.lst (CS.map bD))), some (.sh (bD lo)), some (.sh (bD x))], ?_, _, by unfold lowStep; rw [if_neg h]⟩
      exact it_f (by simp [w1, w2, c1, c2, h]) rfl
  · obtain ⟨t, rfl⟩ := h
    simp
set_option maxHeartbeats 1000000 in
theorem ok_point_at_least {f : Addr} {fd : FuncData} (T : Txt mg) (Fn : Fun K "point_at_least" "point_at_least" s_point_at_least f fd) (hm : mg "point_at_least" = some (.ref f)) (hB : Binds K fd ["yard", "wide", "row", "limit"] []) {F_point_in : List D → Option D} (h_point_in : FnD P w K mg base 6 "point_in" ["yard", "wide"] F_point_in) (sp_point_in : spec_point_in F_point_in) {F_turned : List D → Option D} (h_turned : FnD P w K mg base 1 "turned" ["row"] F_turned) (sp_turned : spec_turned F_turned)  :
    ∃ F, FnD P w K mg base 7 "point_at_least" ["yard", "wide", "row", "limit"] F ∧ spec_point_at_least F := by
  refine fn_sp spec_point_at_least Fn sc_point_at_least hm hB (fun cdv A outer s H E hr => (bv_one (sv_ret (ev_call h_point_in (hr.mono (by decide)) (av_cons (ev_add (Ev.r (vv 0)) (Ev.r (ev_tup (av_cons (ev_tup (av_cons (ev_call h_turned (hr.mono (by decide)) (av_cons (vv 2) av_nil)) (av_cons (ev_neg (Ev.r (vv 3))) av_nil))) av_nil)))) (av_cons (vv 1) av_nil)))))) ?_
  intro F hF
  intro w B ys a l Y ha sa sl hB hB2 W hW
  rw [hF _ rfl]
  refine ax_do ?_
  show Ans (b1 _ _ [some (.sh (yD ys)), some (.sh (.int W)), some (.sh (rowD a)), some (.sh (.int l))]) _
  have few := Y.few
  have whi := Y.hi
  have e1 := sp_turned a (by first | assumption | exact Nat.le_trans few (by decide) | exact Nat.le_trans Y.few (by decide) | omega)
  have e2 := add_more (ys := ys) (a := a) (l := -l) (by first | assumption | exact Nat.le_trans few (by decide) | exact Nat.le_trans Y.few (by decide) | omega)
  have cp := more_cap (l := -l) Y.bd hB sa sl.neg
  obtain ⟨d, e3, h⟩ := sp_point_in (oneMore ys a (-l)) _ (B + 21) w cp (more_len Y.len ha) whi (by rw [more_count]; omega) hB2 W hW
  refine ax_ret d ?_ h
  generalize yD (oneMore ys a (-l)) = Q at e2 e3
  generalize rowD (a.map fun i => -i) = R at e1 e2
  generalize yD ys = V at e2
  simp [e1, e2, e3, fitOk]
set_option maxHeartbeats 1000000 in
theorem ok_rising_way {f : Addr} {fd : FuncData} (T : Txt mg) (Fn : Fun K "rising_way" "rising_way" s_rising_way f fd) (hm : mg "rising_way" = some (.ref f)) (hB : Binds K fd ["yard", "wide", "aim"] []) {F_point_at_least : List D → Option D} (h_point_at_least : FnD P w K mg base 7 "point_at_least" ["yard", "wide", "row", "limit"] F_point_at_least) (sp_point_at_least : spec_point_at_least F_point_at_least)  :
    ∃ F, FnD P w K mg base 8 "rising_way" ["yard", "wide", "aim"] F ∧ spec_rising_way F := by
  refine fn_sp spec_rising_way Fn sc_rising_way hm hB (fun cdv A outer s H E hr => (bv_cons (sv_set 3 sc_rising_way.nd (ev_tuple rfl T.b_tuple (ar_cons (Fv.r (fv_comp (ns := ["bound"]) rfl (compScope (fs := (defScope s_rising_way)) (N := ["yard", "wide", "aim", "flat"]) rfl rfl (by decide +kernel)) (ir_seq (Ev.r (vv 0))) bindC1 (fun _ _ _ => ⟨(pg_name (i := 0) (show (["bound", "yard", "wide", "aim", "flat"] : List Str).Nodup by decide +kernel) rfl (by first | exact Or.inl rfl | exact Or.inr rfl) (by first | exact Or.inl rfl | exact Or.inr rfl)), tf_nil, (ev_tup (av_cons (ev_item (Ev.r (vv 0)) (Ev.r ev_int)) (av_cons ev_int av_nil)))⟩))) ar_nil)))
      (bv_one (sv_ret (ev_item (Ev.r (ev_call h_point_at_least (hr.mono (by decide)) (av_cons (vv 3) (av_cons (vv 1) (av_cons (vv 2) (av_cons ev_int av_nil)))))) (Ev.r ev_int)))))) ?_
  intro F hF
  intro w B ys aim Y ha sa hB hB2 hn W hW
  rw [hF _ rfl]
  have few := Y.few
  obtain ⟨d, e1, h⟩ := sp_point_at_least w B (flatY ys) aim 1 (flat_yd Y) ha sa (Sm.lit (by show (1 : Int).natAbs < 2 ^ B; exact Nat.lt_of_lt_of_le (by decide) (Nat.pow_le_pow_right (n := 2) (by decide) (show 1 ≤ B by omega)))) hB hB2 W hW
  rcases h with ⟨q, rfl, h1, h2, h3⟩ | ⟨rfl, h1⟩
  · refine ⟨q, ?_, h1, h2, h3⟩
    refine bo ?_
    show seqO _ _ [some (.sh (yD ys)), some (.sh (.int W)), some (.sh (rowD aim)), none] = _
    refine sq_set (yD (flatY ys)) ?_ ?_
    · simp
      generalize hc : compD _ _ _ _ _ = o
      have ec : o = some ((flatY ys).map bD) := by
        rw [← hc]
        unfold flatY
        rw [List.map_map]
        exact compD_map' bD (as := ys) (h := bD ∘ fun y => (y.1, 0)) rfl (fun y hm => by simp [bD, fitOk, atI_zero]) (by first | assumption | exact Nat.le_trans few (by decide) | exact Nat.le_trans Y.few (by decide) | omega)
      subst ec
      simp [tupleD, yD]
    dsimp only [List.set]
    generalize yD (flatY ys) = Q at e1
    simp [e1]
  · obtain ⟨q, q1, q2⟩ := way_point Y.len ha hn
    exact (h1 q q1 q2).elim
set_option maxHeartbeats 1000000 in
theorem ok_top {f : Addr} {fd : FuncData} (T : Txt mg) (Fn : Fun K "top" "top" s_top f fd) (hm : mg "top" = some (.ref f)) (hB : Binds K fd ["yard", "wide", "aim"] []) {F_clash : List D → Option D} (h_clash : FnD P w K mg base 6 "clash" ["yard", "wide"] F_clash) (sp_clash : spec_clash F_clash) {F_ceilings : List D → Option D} (h_ceilings : FnD P w K mg base 6 "ceilings" ["yard", "wide", "aim"] F_ceilings) (sp_ceilings : spec_ceilings F_ceilings) {F_rising_way : List D → Option D} (h_rising_way : FnD P w K mg base 8 "rising_way" ["yard", "wide", "aim"] F_rising_way) (sp_rising_way : spec_rising_way F_rising_way) {F_point_in : List D → Option D} (h_point_in : FnD P w K mg base 6 "point_in" ["yard", "wide"] F_point_in) (sp_point_in : spec_point_in F_point_in) {F_lowest_ceiling : List D → Option D} (h_lowest_ceiling : FnD P w K mg base 3 "lowest_ceiling" ["yard", "found"] F_lowest_ceiling) (sp_lowest_ceiling : spec_lowest_ceiling F_lowest_ceiling) {F_point_at_least : List D → Option D} (h_point_at_least : FnD P w K mg base 7 "point_at_least" ["yard", "wide", "row", "limit"] F_point_at_least) (sp_point_at_least : spec_point_at_least F_point_at_least) {F_weighted_limit : List D → Option D} (h_weighted_limit : FnD P w K mg base 2 "weighted_limit" ["bounds", "weights"] F_weighted_limit) (sp_weighted_limit : spec_weighted_limit F_weighted_limit)  :
    ∃ F, FnD P w K mg base 9 "top" ["yard", "wide", "aim"] F ∧ spec_top F := by
  refine fn_sp spec_top Fn sc_top hm hB (fun cdv A outer s H E hr => (bv_cons (sv_set 3 sc_top.nd (ev_call h_clash (hr.mono (by decide)) (av_cons (vv 0) (av_cons (vv 1) av_nil))))
      (bv_cons (sv_if (ts_notN (Ev.r (vv 3)) (Ev.r ev_non)) (bv_one (sv_ret (ev_tup (av_cons (ev_txt rfl T.c_CLASH) (av_cons (vv 3) av_nil))))) bv_nil)
      (bv_cons (sv_set 4 sc_top.nd (ev_call h_ceilings (hr.mono (by decide)) (av_cons (vv 0) (av_cons (vv 1) (av_cons (vv 2) av_nil)))))
      (bv_cons (sv_if (ts_eq hr (Ev.r (ev_len rfl T.b_len (ar_cons (Ev.r (vv 4)) ar_nil))) (Ev.r ev_int)) (bv_one (sv_ret (ev_tup (av_cons (ev_txt rfl T.c_ENDLESS) (av_cons (ev_call h_point_in (hr.mono (by decide)) (av_cons (vv 0) (av_cons (vv 1) av_nil))) (av_cons (ev_call h_rising_way (hr.mono (by decide)) (av_cons (vv 0) (av_cons (vv 1) (av_cons (vv 2) av_nil)))) av_nil)))))) bv_nil)
      (bv_cons (sv_set 5 sc_top.nd (ev_call h_lowest_ceiling (hr.mono (by decide)) (av_cons (vv 0) (av_cons (vv 4) av_nil))))
      (bv_cons (sv_set 6 sc_top.nd (ev_tuple rfl T.b_tuple (ar_cons (Fv.r (fv_comp (ns := ["number"]) rfl (compScope (fs := (defScope s_top)) (N := ["yard", "wide", "aim", "weights", "found", "ceiling", "height", "point"]) rfl rfl (by decide +kernel)) (ir_seq (Ev.r (vv 2))) bindC1 (fun _ _ _ => ⟨(pg_name (i := 0) (show (["number", "yard", "wide", "aim", "weights", "found", "ceiling", "height", "point"] : List Str).Nodup by decide +kernel) rfl (by first | exact Or.inl rfl | exact Or.inr rfl) (by first | exact Or.inl rfl | exact Or.inr rfl)), tf_nil, (ev_mul (Ev.r (vv 0)) (Ev.r (ev_item (Ev.r (vv 6)) (Ev.r ev_int))))⟩))) ar_nil)))
      (bv_cons (sv_set 7 sc_top.nd (ev_call h_point_at_least (hr.mono (by decide)) (av_cons (vv 0) (av_cons (vv 1) (av_cons (vv 6) (av_cons (ev_call h_weighted_limit (hr.mono (by decide)) (av_cons (vv 0) (av_cons (ev_item (Ev.r (vv 5)) (Ev.r ev_int)) av_nil))) av_nil))))))
      (bv_one (sv_ret (ev_tup (av_cons (ev_txt rfl T.c_TOP) (av_cons (vv 7) (av_cons (ev_item (Ev.r (vv 5)) (Ev.r ev_int)) (av_cons (ev_item (Ev.r (vv 5)) (Ev.r ev_int)) av_nil))))))))))))))) ?_
  intro F hF
  intro w ys aim Y ha sa W hW
  rw [hF _ rfl]
  refine ax_do ?_
  show Ans (seqO _ _ [some (.sh (yD ys)), some (.sh (.int W)), some (.sh (rowD aim)), none, none, none, none, none]) _
  have few := Y.few
  have whi := Y.hi
  have sy : ∀ y ∈ ys, SmP 20 y := Y.sm (Nat.le_refl _)
  obtain ⟨dc, ec, hcl⟩ := sp_clash ys _ 41 w Y.cap Y.len whi (by first | assumption | exact Nat.le_trans few (by decide) | exact Nat.le_trans Y.few (by decide) | omega) (by decide) W hW
  refine ax_set dc (by simp [ec]) ?_
  dsimp only [List.set]
  rcases hcl with ⟨ws, rfl, c1, c2⟩ | ⟨rfl, p0, hp0, hi0⟩
  · refine ax_ift (.tup [.str "clash", rowD ws]) (by simp) (by simp [fitOk]) (.inl ⟨ws, rfl, c1, fun i hi => (c2 i hi).mono (by decide)⟩)
  · refine ax_if (by simp) ?_
    have e1 := sp_ceilings w 320 ys aim Y ha sa (by decide) (by decide) W hW
    refine ax_set (.lst ((ceilL ys w aim).map bD)) (by simp [e1]) ?_
    dsimp only [List.set]
    cases hC : ceilL ys w aim with
    | nil =>
      obtain ⟨d2, e2, h2⟩ := sp_point_in ys _ 41 w Y.cap Y.len whi (by first | assumption | exact Nat.le_trans few (by decide) | exact Nat.le_trans Y.few (by decide) | omega) (by decide) W hW
      obtain ⟨q, e3, q1, q2, q3⟩ := sp_rising_way w 320 ys aim Y ha sa (by decide) (by decide) (no_ceilL ha hC) W hW
      rcases h2 with ⟨p, rfl, p1, p2, p3⟩ | ⟨rfl, h2⟩
      · refine ax_ift (.tup [.str "endless", bD p, rowD q.1]) (by simp) (by simp [e2, e3, fitOk]) (.inr (.inr ⟨p, q.1, rfl, way_good p1 p2 q1 q2, p3.mono (by decide), fun i hi => (q3.row i hi).mono (by decide)⟩))
      · exact (h2 p0 hp0 hi0).elim
    | cons c cs =>
      have hs : ∀ x ∈ c :: cs, SmP 1371 x := fun x hx => ceil_sm (B := 320) Y sa (by decide) (by rw [hC]; exact hx)
      obtain ⟨lm, low⟩ := low_all ha hC
      have e2 := sp_lowest_ceiling 1371 ys c cs (by decide) (fun y hm => (sy y hm).lim.mono (by decide)) (by first | assumption | exact Nat.le_trans few (by decide) | exact Nat.le_trans Y.few (by decide) | omega) hs
      have hce := (ceil_mem ha lm).1
      have sl := ceil_sm (B := 320) Y sa (by decide) lm
      generalize lowC ys c (c :: cs) = lo at e2 lm low hce sl
      have sl : SmP 1371 lo := sl
      have hlen : (c :: cs).map bD ≠ [] := by simp
      generalize (c :: cs).map bD = CL at e2 hlen
      refine ax_if (by simp [hlen]) ?_
      refine ax_set (bD lo) (by simp [e2]) ?_
      dsimp only [List.set]
      refine ax_set (rowD (aim.map fun i => i * lo.2)) ?_ ?_
      · simp
        generalize hc : compD _ _ _ _ _ = o
        have ec : o = some ((aim.map fun i => i * lo.2).map D.int) := by
          rw [← hc, List.map_map]
          refine compD_map' D.int (as := aim) (h := D.int ∘ fun i => i * lo.2) rfl (fun i hi => ?_) (by first | assumption | exact Nat.le_trans few (by decide) | exact Nat.le_trans Y.few (by decide) | omega)
          have cm := (sa i hi).cmul sl.lim (by decide) (by decide)
          simp [cm]
        subst ec
        generalize aim.map (fun i => i * lo.2) = z
        simp [rowD, tupleD]
      dsimp only [List.set]
      have e3 := sp_weighted_limit 1371 ys lo.1 (by decide) (fun y hm => (sy y hm).lim.mono (by decide)) sl.row (by first | assumption | exact Nat.le_trans few (by decide) | exact Nat.le_trans Y.few (by decide) | omega) sl.len (yD ys) rfl
      have sz : Sm 1691 (wLim ys lo.1) := (lim_sm' (fun y hm => (sy y hm).lim) sl.row sl.len).mono (by decide)
      obtain ⟨d4, e4, h4⟩ := sp_point_at_least w 1691 ys (aim.map fun i => i * lo.2) (wLim ys lo.1) Y (by simp [ha]) (fun i hi => by
        obtain ⟨j, hj, rfl⟩ := List.mem_map.mp hi
        exact ((sa j hj).mul sl.lim).mono (by decide)) sz (by decide) (by decide) W hW
      have hL := lv_ok (oneMore ys aim 0) w w
      rw [more_count] at hL
      obtain ⟨q, q1, q2⟩ := topmost_pt Y.len ha hL hp0 hi0 hce low
      rcases h4 with ⟨p, rfl, p1, p2, p3⟩ | ⟨rfl, h4⟩
      · refine ax_set (bD p) (by simp [e3, e4]) ?_
        dsimp only [List.set]
        exact ax_ret (.tup [.str "top", bD p, rowD lo.1, .int lo.2]) (by simp [fitOk]) (.inr (.inl ⟨p, lo.1, lo.2, rfl, top_good Y.len ha hce p1 p2, p3.mono (by decide), fun i hi => (sl.row i hi).mono (by decide), sl.lim.mono (by decide)⟩))
      · exact (h4 q q1 q2).elim
set_option maxHeartbeats 1000000 in
theorem ok_reasons {f : Addr} {fd : FuncData} (T : Txt mg) (Fn : Fun K "reasons" "reasons" s_reasons f fd) (hm : mg "reasons" = some (.ref f)) (hB : Binds K fd ["yard", "wide", "bound"] []) {F_top : List D → Option D} (h_top : FnD P w K mg base 9 "top" ["yard", "wide", "aim"] F_top) (sp_top : spec_top F_top) {F_weighted_limit : List D → Option D} (h_weighted_limit : FnD P w K mg base 2 "weighted_limit" ["bounds", "weights"] F_weighted_limit) (sp_weighted_limit : spec_weighted_limit F_weighted_limit)  :
    ∃ F, FnD P w K mg base 10 "reasons" ["yard", "wide", "bound"] F ∧ spec_reasons F := by
  refine fn_sp spec_reasons Fn sc_reasons hm hB (fun cdv A outer s H E hr => (bv_cons (sv_set 3 sc_reasons.nd (ev_call h_top (hr.mono (by decide)) (av_cons (vv 0) (av_cons (vv 1) (av_cons (ev_item (Ev.r (vv 2)) (Ev.r ev_int)) av_nil)))))
      (bv_cons (sv_if (ts_w (tw_or (ts_ne hr (Ev.r (ev_item (Ev.r (vv 3)) (Ev.r ev_int))) (Ev.r (ev_txt rfl T.c_TOP))) (tw_or1 (ts_gt (Ev.r (ev_call h_weighted_limit (hr.mono (by decide)) (av_cons (vv 0) (av_cons (ev_item (Ev.r (vv 3)) (Ev.r ev_int)) av_nil)))) (Ev.r (ev_mul (Ev.r (ev_item (Ev.r (vv 3)) (Ev.r ev_int))) (Ev.r (ev_item (Ev.r (vv 2)) (Ev.r ev_int))))))))) (bv_one (sv_ret ev_non)) bv_nil)
      (bv_one (sv_ret (ev_tup (av_cons (ev_item (Ev.r (vv 3)) (Ev.r ev_int)) (av_cons (ev_item (Ev.r (vv 3)) (Ev.r ev_int)) av_nil)))))))) ?_
  intro F hF
  intro w ys b Y hbl sb W hW
  rw [hF _ rfl]
  refine ax_do ?_
  show Ans (seqO _ _ [some (.sh (yD ys)), some (.sh (.int W)), some (.sh (bD b)), none]) _
  have few := Y.few
  have whi := Y.hi
  have sy : ∀ y ∈ ys, SmP 20 y := Y.sm (Nat.le_refl _)
  obtain ⟨d, e, t⟩ := sp_top w ys b.1 Y hbl sb.row W hW
  refine ax_set d (by simp [e]) ?_
  dsimp only [List.set]
  rcases t with ⟨ws, rfl, h1, h2⟩ | ⟨p, ws, x, rfl, h1, h2, h3, h4⟩ | ⟨p, r, rfl, h1, h2, h3⟩
  · refine ax_ift .non (by simp [atI_zero, orB, str_ct, str_cc, str_tc, str_tt, str_ec, str_et, str_ee, str_te, str_ce]) rfl (.inr ⟨rfl, fun ⟨p, hp, hi⟩ => (no_clash Y.len h1 hp hi).elim⟩)
  · have hp := top_all h1
    have e1 := sp_weighted_limit 1400 ys ws (by decide) (fun y hm => (sy y hm).lim.mono (by decide)) h3 (by first | assumption | exact Nat.le_trans few (by decide) | exact Nat.le_trans Y.few (by decide) | omega) (by have := hp.2.2.1; omega) (yD ys) rfl
    have c1 := h4.cmul sb.lim (by decide) (by decide)
    by_cases h : x * b.2 < wLim ys ws
    · refine ax_ift .non (by simp [atI_zero, atI_two, atI_three, orB, str_ct, str_cc, str_tc, str_tt, str_ec, str_et, str_ee, str_te, str_ce, e1, c1, h]) rfl (.inr ⟨rfl, fun _ hf => ?_⟩)
      have := top_over h1 h
      have := hf p hp.1 hp.2.1
      omega
    · refine ax_if (by simp [atI_zero, atI_two, atI_three, orB, str_ct, str_cc, str_tc, str_tt, str_ec, str_et, str_ee, str_te, str_ce, e1, c1, h]) ?_
      exact ax_ret (.tup [rowD ws, .int x]) (by simp [atI_two, atI_three, fitOk]) (.inl ⟨ws, x, rfl, top_reason h1 (by first | assumption | exact Nat.le_trans few (by decide) | exact Nat.le_trans Y.few (by decide) | omega), fun i hi => (h3 i hi).mono (by decide), h4.mono (by decide)⟩)
  · have hp := end_all h1
    refine ax_ift .non (by simp [atI_zero, orB, str_ct, str_cc, str_tc, str_tt, str_ec, str_et, str_ee, str_te, str_ce]) rfl (.inr ⟨rfl, fun _ hf => ?_⟩)
    have k := carry_ok (b := b) hp.1 hp.2.1 hp.2.2.1 hp.2.2.2.1 hp.2.2.2.2
    have := hf _ k.1 k.2.1
    omega
set_option maxHeartbeats 1000000 in
theorem ok_carried_beyond {f : Addr} {fd : FuncData} (T : Txt mg) (Fn : Fun K "carried_beyond" "carried_beyond" s_carried_beyond f fd) (hm : mg "carried_beyond" = some (.ref f)) (hB : Binds K fd ["bound", "point", "way"] []) {F_product : List D → Option D} (h_product : FnD P w K mg base 1 "product" ["one", "other"] F_product) (sp_product : spec_product F_product)  :
    ∃ F, FnD P w K mg base 2 "carried_beyond" ["bound", "point", "way"] F ∧ spec_carried_beyond F := by
  refine fn_sp spec_carried_beyond Fn sc_carried_beyond hm hB (fun cdv A outer s H E hr => (bv_cons (sv_set 3 sc_carried_beyond.nd (ev_sub (Ev.r (ev_mul (Ev.r (ev_item (Ev.r (vv 0)) (Ev.r ev_int))) (Ev.r (ev_item (Ev.r (vv 1)) (Ev.r ev_int))))) (Ev.r (ev_call h_product (hr.mono (by decide)) (av_cons (ev_item (Ev.r (vv 0)) (Ev.r ev_int)) (av_cons (ev_item (Ev.r (vv 1)) (Ev.r ev_int)) av_nil))))))
      (bv_cons (sv_set 4 sc_carried_beyond.nd (ev_max rfl rfl T.b_max (ar_cons (Ev.r (ev_add (Ev.r (ev_fdiv (Ev.r (vv 3)) (Ev.r (ev_mul (Ev.r (ev_item (Ev.r (vv 1)) (Ev.r ev_int))) (Ev.r (ev_call h_product (hr.mono (by decide)) (av_cons (ev_item (Ev.r (vv 0)) (Ev.r ev_int)) (av_cons (vv 2) av_nil)))))))) (Ev.r ev_int))) (ar_cons (Ev.r ev_int) ar_nil))))
      (bv_cons (sv_compS 5 (ns := ["number", "step"]) rfl (compScope (fs := (defScope s_carried_beyond)) (N := ["bound", "point", "way", "left", "steps", "row"]) rfl rfl (by decide +kernel)) (ir_zip rfl T.b_zip (ar_cons (Ev.r (ev_item (Ev.r (vv 1)) (Ev.r ev_int))) (ar_cons (Ev.r (vv 2)) ar_nil))) bindC2 (fun _ _ _ => ⟨(pg_tup rfl (pgs_cons (pg_name (i := 0) (show (["number", "step", "bound", "point", "way", "left", "steps", "row"] : List Str).Nodup by decide +kernel) rfl (by first | exact Or.inl rfl | exact Or.inr rfl) (by first | exact Or.inl rfl | exact Or.inr rfl)) (pgs_cons (pg_name (i := 1) (show (["number", "step", "bound", "point", "way", "left", "steps", "row"] : List Str).Nodup by decide +kernel) rfl (by first | exact Or.inl rfl | exact Or.inr rfl) (by first | exact Or.inl rfl | exact Or.inr rfl)) pgs_nil))), tf_nil, (ev_add (Ev.r (vv 0)) (Ev.r (ev_mul (Ev.r (ev_mul (Ev.r (vv 6)) (Ev.r (ev_item (Ev.r (vv 3)) (Ev.r ev_int))))) (Ev.r (vv 1)))))⟩) sc_carried_beyond.nd)
      (bv_one (sv_ret (ev_tup (av_cons (ev_tuple rfl T.b_tuple (ar_cons (Ev.r (vv 5)) ar_nil)) (av_cons (ev_item (Ev.r (vv 1)) (Ev.r ev_int)) av_nil))))))))) ?_
  intro F hF
  intro b p r sb sp' sr hD hl
  have bl := sb.len
  have pl := sp'.len
  have e1 := sp_product 1400 b.1 p.1 (by decide) (fun i hi => (sb.row i hi).mono (by decide)) (fun i hi => (sp'.row i hi).mono (by decide)) bl (rowD b.1) (rowD p.1) rfl rfl
  have e2 := sp_product 1400 b.1 r (by decide) (fun i hi => (sb.row i hi).mono (by decide)) sr bl (rowD b.1) (rowD r) rfl rfl
  have c1 := sb.lim.cmul sp'.lim (by decide) (by decide)
  have s1 : Sm 531 (b.2 * p.2 - dot b.1 p.1) := ((sb.lim.mul sp'.lim).mono (show med + 200 ≤ 530 by decide)).sub ((dot_sm sb.row sp'.row bl).mono (show med + 200 + 10 ≤ 530 by decide))
  have s2 : Sm 1730 (dot b.1 r) := (dot_sm sb.row sr bl).mono (by decide)
  have c2 := sp'.lim.cmul s2 (by decide) (by decide)
  have s3 : Sm 1930 (p.2 * dot b.1 r) := (sp'.lim.mul s2).mono (by decide)
  have cd := cdiv_sm (i := b.2 * p.2 - dot b.1 p.1) hD s3 (by decide)
  have s4 := carrySt_sm s1 hD
  have s5 : Sm 732 (carrySt b p r * p.2) := (s4.mul sp'.lim).mono (by decide)
  have c3 := s4.cmul sp'.lim (by decide) (by decide)
  refine ⟨?_, ?_⟩
  · rw [hF _ rfl]
    refine bo ?_
    show seqO _ _ [some (.sh (bD b)), some (.sh (bD p)), some (.sh (rowD r)), none, none, none] = _
    refine sq_set (.int (b.2 * p.2 - dot b.1 p.1)) (by simp [e1, c1]) ?_
    dsimp only [List.set]
    refine sq_set (.int (carrySt b p r)) (by simp [e2, c2, cd, carrySt, maxD]) ?_
    dsimp only [List.set]
    refine sq_comp ((carryP b p r).1.map D.int) ?_ ?_
    · unfold carryP
      rw [List.map_zipWith]
      refine compD_zip D.int D.int (as := p.1) (bs := r) (h := fun i j => .int (i + carrySt b p r * p.2 * j)) (by simp [zipD, seqD, rowD]) (fun i hi j hj => ?_) pl
      have c4 := s5.cmul (sr j hj) (by decide) (by decide)
      simp [c3, c4]
    dsimp only [List.set]
    show _ = some (Out.rt (.tup [rowD (carryP b p r).1, .int p.2]))
    generalize (carryP b p r).1 = z
    simp [rowD, tupleD, fitOk]
  · refine ⟨fun x hx => ?_, sp'.lim.mono (by decide), by simp [carryP]; omega⟩
    obtain ⟨k, hk, rfl⟩ := List.mem_iff_getElem.mp hx
    have hk' : k < p.1.length ∧ k < r.length := by simp [carryP] at hk; omega
    have e : (carryP b p r).1[k] = p.1[k] + carrySt b p r * p.2 * r[k] := by simp [carryP]
    rw [e]
    have a1 : Sm 2200 p.1[k] := (sp'.row _ (List.getElem_mem hk'.1)).mono (by decide)
    have a2 : Sm 2200 (carrySt b p r * p.2 * r[k]) := (s5.mul (sr _ (List.getElem_mem hk'.2))).mono (by decide)
    exact (a1.add a2).mono (by decide)
set_option maxHeartbeats 1000000 in
theorem ok_against {f : Addr} {fd : FuncData} (T : Txt mg) (Fn : Fun K "against" "against" s_against f fd) (hm : mg "against" = some (.ref f)) (hB : Binds K fd ["yard", "wide", "bound"] []) {F_top : List D → Option D} (h_top : FnD P w K mg base 9 "top" ["yard", "wide", "aim"] F_top) (sp_top : spec_top F_top) {F_carried_beyond : List D → Option D} (h_carried_beyond : FnD P w K mg base 2 "carried_beyond" ["bound", "point", "way"] F_carried_beyond) (sp_carried_beyond : spec_carried_beyond F_carried_beyond) {F_keeps : List D → Option D} (h_keeps : FnD P w K mg base 2 "keeps" ["bound", "point"] F_keeps) (sp_keeps : spec_keeps F_keeps)  :
    ∃ F, FnD P w K mg base 10 "against" ["yard", "wide", "bound"] F ∧ spec_against F := by
  refine fn_sp spec_against Fn sc_against hm hB (fun cdv A outer s H E hr => (bv_cons (sv_set 3 sc_against.nd (ev_call h_top (hr.mono (by decide)) (av_cons (vv 0) (av_cons (vv 1) (av_cons (ev_item (Ev.r (vv 2)) (Ev.r ev_int)) av_nil)))))
      (bv_cons (sv_if (ts_eq hr (Ev.r (ev_item (Ev.r (vv 3)) (Ev.r ev_int))) (Ev.r (ev_txt rfl T.c_ENDLESS))) (bv_one (sv_ret (ev_call h_carried_beyond (hr.mono (by decide)) (av_cons (vv 2) (av_cons (ev_item (Ev.r (vv 3)) (Ev.r ev_int)) (av_cons (ev_item (Ev.r (vv 3)) (Ev.r ev_int)) av_nil)))))) bv_nil)
      (bv_cons (sv_if (ts_w (tw_or (ts_eq hr (Ev.r (ev_item (Ev.r (vv 3)) (Ev.r ev_int))) (Ev.r (ev_txt rfl T.c_CLASH))) (tw_or1 (ts_tru (Ev.r (ev_call h_keeps (hr.mono (by decide)) (av_cons (vv 2) (av_cons (ev_item (Ev.r (vv 3)) (Ev.r ev_int)) av_nil)))))))) (bv_one (sv_ret ev_non)) bv_nil)
      (bv_one (sv_ret (ev_item (Ev.r (vv 3)) (Ev.r ev_int)))))))) ?_
  intro F hF
  intro w ys b Y hbl sb W hW
  rw [hF _ rfl]
  refine ax_do ?_
  show Ans (seqO _ _ [some (.sh (yD ys)), some (.sh (.int W)), some (.sh (bD b)), none]) _
  have few := Y.few
  have whi := Y.hi
  obtain ⟨d, e, t⟩ := sp_top w ys b.1 Y hbl sb.row W hW
  refine ax_set d (by simp [e]) ?_
  dsimp only [List.set]
  rcases t with ⟨ws, rfl, h1, h2⟩ | ⟨p, ws, x, rfl, h1, h2, h3, h4⟩ | ⟨p, r, rfl, h1, h2, h3⟩
  · refine ax_if (by simp [atI_zero, str_ct, str_cc, str_tc, str_tt, str_ec, str_et, str_ee, str_te, str_ce]) ?_
    refine ax_ift .non (by simp [atI_zero, orB, str_ct, str_cc, str_tc, str_tt, str_ec, str_et, str_ee, str_te, str_ce]) rfl (.inr ⟨rfl, fun p hp hi => (no_clash Y.len h1 hp hi).elim⟩)
  · have hp := top_all h1
    have e1 := sp_keeps 7000 b p (by decide) (sb.mono (by decide)) h2
    refine ax_if (by simp [atI_zero, str_ct, str_cc, str_tc, str_tt, str_ec, str_et, str_ee, str_te, str_ce]) ?_
    cases hk : keepB b p with
    | true =>
      rw [hk] at e1
      refine ax_ift .non (by simp [atI_zero, atI_one, orB, str_ct, str_cc, str_tc, str_tt, str_ec, str_et, str_ee, str_te, str_ce, e1]) rfl (.inr ⟨rfl, ?_⟩)
      exact reason_fol Y.len (top_reason h1 (top_fol Y.len h1 (of_decide_eq_true hk)))
    | false =>
      rw [hk] at e1
      refine ax_if (by simp [atI_zero, atI_one, orB, str_ct, str_cc, str_tc, str_tt, str_ec, str_et, str_ee, str_te, str_ce, e1]) ?_
      exact ax_ret (bD p) (by simp [atI_one]) (.inl ⟨p, rfl, hp.1, hp.2.1, h2.mono (by decide), by have := of_decide_eq_false hk; omega⟩)
  · have hp := end_all h1
    have pd := hp.1.div
    have k := carry_ok (b := b) hp.1 hp.2.1 hp.2.2.1 hp.2.2.2.1 hp.2.2.2.2
    have e1 := sp_carried_beyond b p r sb h2 h3 (Int.mul_pos (by first | assumption | exact Nat.le_trans few (by decide) | exact Nat.le_trans Y.few (by decide) | omega) hp.2.2.2.2) (by rw [hp.1.len, hp.2.2.1])
    refine ax_ift (bD (carryP b p r)) (by simp [atI_zero, str_ct, str_cc, str_tc, str_tt, str_ec, str_et, str_ee, str_te, str_ce]) (by simp [atI_one, atI_two, e1.1]) (.inl ⟨_, rfl, k.1, k.2.1, e1.2, k.2.2⟩)
set_option maxHeartbeats 1000000 in
theorem ok_follows {f : Addr} {fd : FuncData} (T : Txt mg) (Fn : Fun K "follows" "follows" s_follows f fd) (hm : mg "follows" = some (.ref f)) (hB : Binds K fd ["yard", "wide", "bound"] []) {F_against : List D → Option D} (h_against : FnD P w K mg base 10 "against" ["yard", "wide", "bound"] F_against) (sp_against : spec_against F_against)  :
    ∃ F, FnD P w K mg base 11 "follows" ["yard", "wide", "bound"] F ∧ spec_follows F := by
  refine fn_sp spec_follows Fn sc_follows hm hB (fun cdv A outer s H E hr => (bv_one (sv_ret (ev_isN (Ev.r (ev_call h_against (hr.mono (by decide)) (av_cons (vv 0) (av_cons (vv 1) (av_cons (vv 2) av_nil))))) (Ev.r ev_non))))) ?_
  intro F hF
  intro w ys b Y hbl sb
  obtain ⟨d, e, t⟩ := sp_against w ys b Y hbl sb w rfl
  rw [hF _ rfl]
  generalize (w : Int) = W at e ⊢
  rcases t with ⟨p, rfl, h1, h2, h3, h4⟩ | ⟨rfl, h1⟩
  · refine ⟨false, by simp [e], ⟨fun h => (by cases h), fun h => ?_⟩⟩
    have := h p h1 h2
    omega
  · exact ⟨true, by simp [e], ⟨fun _ => h1, fun _ => rfl⟩⟩
set_option maxHeartbeats 1000000 in
theorem ok_law_cell_at {f : Addr} {fd : FuncData} (T : Txt mg) (Fn : Fun K "_law_cell_at" "_law_cell_at" s_law_cell_at f fd) (hm : mg "_law_cell_at" = some (.ref f)) (hB : Binds K fd ["_law_script", "_law_k"] [])   :
    ∃ F, FnD P w K mg base 1 "_law_cell_at" ["_law_script", "_law_k"] F ∧ ∀ ds, pre_law_cell_at ds → ∃ d, F ds = some d ∧ post_law_cell_at ds d := by
  refine fn_ex pre_law_cell_at post_law_cell_at Fn sc_law_cell_at hm hB (fun cdv A outer s H E hr => (bv_cons (sv_if (ts_lt (Ev.r (vv 1)) (Ev.r (ev_len rfl T.b_len (ar_cons (Ev.r (vv 0)) ar_nil)))) (bv_one (sv_ret (ev_item (Ev.r (vv 0)) (Ev.r (vv 1))))) bv_nil)
      (bv_one (sv_ret ev_int)))) ?_
  intro ds hp
  obtain ⟨ns, k, rfl, hk⟩ := hp
  refine ⟨rfl, ?_⟩
  by_cases h : k < ns.length
  · obtain ⟨x, hx, e⟩ := atI_some (xs := ns.map D.int) hk (by simpa using h)
    obtain ⟨i, _, rfl⟩ := List.mem_map.mp hx
    exact ⟨.int i, by simp [h, e], i, rfl⟩
  · exact ⟨.int 0, by simp [h], 0, rfl⟩
set_option maxHeartbeats 1000000 in
theorem ok_law_mixed {f : Addr} {fd : FuncData} (T : Txt mg) (Fn : Fun K "_law_mixed" "_law_mixed" s_law_mixed f fd) (hm : mg "_law_mixed" = some (.ref f)) (hB : Binds K fd ["_law_script", "_law_k"] []) {F_law_cell_at : List D → Option D} (h_law_cell_at : FnD P w K mg base 1 "_law_cell_at" ["_law_script", "_law_k"] F_law_cell_at) (sp_law_cell_at : ∀ ds, pre_law_cell_at ds → ∃ d, F_law_cell_at ds = some d ∧ post_law_cell_at ds d)  :
    ∃ F, FnD P w K mg base 2 "_law_mixed" ["_law_script", "_law_k"] F ∧ ∀ ds, pre_law_mixed ds → ∃ d, F ds = some d ∧ post_law_mixed ds d := by
  refine fn_ex pre_law_mixed post_law_mixed Fn sc_law_mixed hm hB (fun cdv A outer s H E hr => (bv_cons (sv_set 2 sc_law_mixed.nd (ev_mod (Ev.r (ev_mul (Ev.r (ev_add (Ev.r (ev_add (Ev.r (ev_call h_law_cell_at (hr.mono (by decide)) (av_cons (vv 0) (av_cons (vv 1) av_nil)))) (Ev.r (ev_mul (Ev.r ev_int) (Ev.r (vv 1)))))) (Ev.r ev_int))) (Ev.r ev_int))) (Ev.r ev_int)))
      (bv_one (sv_ret (ev_mod (Ev.r (ev_add (Ev.r (ev_add (Ev.r (ev_mul (Ev.r (vv 2)) (Ev.r (vv 2)))) (Ev.r (ev_mul (Ev.r ev_int) (Ev.r (vv 2)))))) (Ev.r (vv 1)))) (Ev.r ev_int)))))) ?_
  intro ds hp
  obtain ⟨ns, k, rfl, hk⟩ := hp
  obtain ⟨c, e, i, rfl⟩ := sp_law_cell_at [.lst (ns.map D.int), .int k] ⟨ns, k, rfl, hk⟩
  have c1 : CMul 7919 k := .inl (by decide)
  have c2 : CMul (i + 7919 * k + 1) 48271 := .inr (.inl (by decide))
  have c3 : CMul ((i + 7919 * k + 1) * 48271 % 2147483647) ((i + 7919 * k + 1) * 48271 % 2147483647) := .inl (by constructor <;> omega)
  have c4 : CMul 7 ((i + 7919 * k + 1) * 48271 % 2147483647) := .inl (by decide)
  refine ⟨rfl, ?_⟩
  simp [e, c1, c2, c3, c4, post_law_mixed]
  omega
set_option maxHeartbeats 1000000 in
theorem ok_law_drawn {f : Addr} {fd : FuncData} (T : Txt mg) (Fn : Fun K "_law_drawn" "_law_drawn" s_law_drawn f fd) (hm : mg "_law_drawn" = some (.ref f)) (hB : Binds K fd ["_law_number", "_law_k"] [])   :
    ∃ F, FnD P w K mg base 1 "_law_drawn" ["_law_number", "_law_k"] F ∧ ∀ ds, pre_law_drawn ds → ∃ d, F ds = some d ∧ post_law_drawn ds d := by
  refine fn_ex pre_law_drawn post_law_drawn Fn sc_law_drawn hm hB (fun cdv A outer s H E hr => (bv_cons (sv_set 2 sc_law_drawn.nd (ev_mod (Ev.r (ev_mul (Ev.r (ev_add (Ev.r (ev_add (Ev.r (vv 0)) (Ev.r (ev_mul (Ev.r ev_int) (Ev.r (vv 1)))))) (Ev.r ev_int))) (Ev.r ev_int))) (Ev.r ev_int)))
      (bv_one (sv_ret (ev_mod (Ev.r (ev_add (Ev.r (ev_add (Ev.r (ev_mul (Ev.r (vv 2)) (Ev.r (vv 2)))) (Ev.r (ev_mul (Ev.r ev_int) (Ev.r (vv 2)))))) (Ev.r (vv 1)))) (Ev.r ev_int)))))) ?_
  intro ds hp
  obtain ⟨n, k, rfl⟩ := hp
  have c1 : CMul 104729 k := .inl (by decide)
  have c2 : CMul (n + 104729 * k + 17) 69621 := .inr (.inl (by decide))
  have c3 : CMul ((n + 104729 * k + 17) * 69621 % 2147483647) ((n + 104729 * k + 17) * 69621 % 2147483647) := .inl (by constructor <;> omega)
  have c4 : CMul 3 ((n + 104729 * k + 17) * 69621 % 2147483647) := .inl (by decide)
  refine ⟨rfl, ?_⟩
  simp [c1, c2, c3, c4, post_law_drawn]
  omega
set_option maxHeartbeats 1000000 in
theorem ok_law_signed {f : Addr} {fd : FuncData} (T : Txt mg) (Fn : Fun K "_law_signed" "_law_signed" s_law_signed f fd) (hm : mg "_law_signed" = some (.ref f)) (hB : Binds K fd ["_law_number", "_law_size_here"] [])   :
    ∃ F, FnD P w K mg base 1 "_law_signed" ["_law_number", "_law_size_here"] F ∧ ∀ ds, pre_law_signed ds → ∃ d, F ds = some d ∧ post_law_signed ds d := by
  refine fn_ex pre_law_signed post_law_signed Fn sc_law_signed hm hB (fun cdv A outer s H E hr => (bv_one (sv_ret (ev_mul (Ev.r (ev_mod (Ev.r (ev_fdiv (Ev.r (vv 0)) (Ev.r ev_int))) (Ev.r (vv 1)))) (Ev.r (ev_item (Ev.r (ev_tup (av_cons ev_int (av_cons (ev_neg (Ev.r ev_int)) (av_cons ev_int av_nil))))) (Ev.r (ev_mod (Ev.r (vv 0)) (Ev.r ev_int))))))))) ?_
  intro ds hp
  obtain ⟨n, z, rfl, h1, h2⟩ := hp
  have a0 : 0 ≤ n / 3 % z := Int.emod_nonneg _ (by first | assumption | exact Nat.le_trans few (by decide) | exact Nat.le_trans Y.few (by decide) | omega)
  have a1 : n / 3 % z < z := Int.emod_lt_of_pos _ h1
  have cd : CDiv n 3 := ⟨by decide, by decide⟩
  refine ⟨rfl, ?_⟩
  generalize hx : n / 3 % z = x at a0 a1
  have cm : ∀ y, CMul x y := fun y => .inl (by constructor <;> omega)
  have hm : n % 3 = 0 ∨ n % 3 = 1 ∨ n % 3 = 2 := by omega
  rcases hm with h | h | h
  · exact ⟨.int (x * 1), by simp [cd, h1, hx, h, cm, atI_zero], _, rfl, by simp [reach]; omega⟩
  · exact ⟨.int (x * -1), by simp [cd, h1, hx, h, cm, atI_one], _, rfl, by simp [reach]; omega⟩
  · exact ⟨.int (x * 1), by simp [cd, h1, hx, h, cm, atI_two], _, rfl, by simp [reach]; omega⟩
set_option maxHeartbeats 1000000 in
theorem ok_law_row {f : Addr} {fd : FuncData} (T : Txt mg) (Fn : Fun K "_law_row" "_law_row" s_law_row f fd) (hm : mg "_law_row" = some (.ref f)) (hB : Binds K fd ["_law_number", "_law_wide", "_law_size_here"] []) {F_law_signed : List D → Option D} (h_law_signed : FnD P w K mg base 1 "_law_signed" ["_law_number", "_law_size_here"] F_law_signed) (sp_law_signed : ∀ ds, pre_law_signed ds → ∃ d, F_law_signed ds = some d ∧ post_law_signed ds d) {F_law_drawn : List D → Option D} (h_law_drawn : FnD P w K mg base 1 "_law_drawn" ["_law_number", "_law_k"] F_law_drawn) (sp_law_drawn : ∀ ds, pre_law_drawn ds → ∃ d, F_law_drawn ds = some d ∧ post_law_drawn ds d)  :
    ∃ F, FnD P w K mg base 2 "_law_row" ["_law_number", "_law_wide", "_law_size_here"] F ∧ ∀ ds, pre_law_row ds → ∃ d, F ds = some d ∧ post_law_row ds d := by
  refine fn_ex pre_law_row post_law_row Fn sc_law_row hm hB (fun cdv A outer s H E hr => (bv_one (sv_ret (ev_tuple rfl T.b_tuple (ar_cons (Fv.r (fv_comp (ns := ["_law_at"]) rfl (compScope (fs := (defScope s_law_row)) (N := ["_law_number", "_law_wide", "_law_size_here"]) rfl rfl (by decide +kernel)) (Iv.r (iv_range1 rfl T.b_range (ar_cons (Ev.r (vv 1)) ar_nil))) bindC1 (fun _ _ _ => ⟨(pg_name (i := 0) (show (["_law_at", "_law_number", "_law_wide", "_law_size_here"] : List Str).Nodup by decide +kernel) rfl (by first | exact Or.inl rfl | exact Or.inr rfl) (by first | exact Or.inl rfl | exact Or.inr rfl)), tf_nil, (ev_call h_law_signed (hr.mono (by decide)) (av_cons (ev_call h_law_drawn (hr.mono (by decide)) (av_cons (vv 1) (av_cons (vv 0) av_nil))) (av_cons (vv 3) av_nil)))⟩))) ar_nil))))) ?_
  intro ds hp
  obtain ⟨n, w, z, rfl, h1, h2, h3, h4⟩ := hp
  refine ⟨rfl, ?_⟩
  simp
  generalize hc : compD _ _ _ _ _ = o
  obtain ⟨ys, rfl, el, ep⟩ : ∃ ys, o = some ys ∧ ys.length = (rngL 0 w.toNat).length ∧ ∀ y ∈ ys, ∃ d ∈ rngL 0 w.toNat, ∃ i, y = .int i ∧ reach i = true := by
    rw [← hc]
    refine compD_ex (Q := fun _ y => ∃ i, y = .int i ∧ reach i = true) (by simp [rng1_small (j := w) (by first | assumption | exact Nat.le_trans few (by decide) | exact Nat.le_trans Y.few (by decide) | omega) (by first | assumption | exact Nat.le_trans few (by decide) | exact Nat.le_trans Y.few (by decide) | omega)]) (by rw [rngL_length]; omega) fun d hd => ?_
    obtain ⟨i, hi, rfl⟩ := rngL_mem hd
    rw [Int.zero_add]
    obtain ⟨a, ea, m, rfl, _⟩ := sp_law_drawn [.int n, .int i] ⟨_, _, rfl⟩
    obtain ⟨b, eb, j, rfl, hj⟩ := sp_law_signed [.int m, .int z] ⟨_, _, rfl, h3, h4⟩
    exact ⟨.int j, by simp [ea, eb], j, rfl, hj⟩
  obtain ⟨is, rfl, his⟩ := ints_map ys fun y hy => let ⟨_, _, q⟩ := ep y hy; q
  refine ⟨.tup (is.map D.int), by simp, n, w, z, is, rfl, rfl, ?_, his⟩
  rw [List.length_map, rngL_length] at el
  omega
set_option maxHeartbeats 1000000 in
theorem ok_law_size {f : Addr} {fd : FuncData} (T : Txt mg) (Fn : Fun K "_law_size" "_law_size" s_law_size f fd) (hm : mg "_law_size" = some (.ref f)) (hB : Binds K fd ["_law_number"] [])   :
    ∃ F, FnD P w K mg base 1 "_law_size" ["_law_number"] F ∧ ∀ ds, pre_law_size ds → ∃ d, F ds = some d ∧ post_law_size ds d := by
  refine fn_ex pre_law_size post_law_size Fn sc_law_size hm hB (fun cdv A outer s H E hr => (bv_one (sv_ret (ev_item (Ev.r (ev_tup (av_cons ev_int (av_cons ev_int (av_cons ev_int (av_cons ev_int av_nil)))))) (Ev.r (ev_mod (Ev.r (vv 0)) (Ev.r ev_int))))))) ?_
  intro ds hp
  obtain ⟨n, rfl⟩ := hp
  refine ⟨rfl, ?_⟩
  obtain ⟨x, hx, e⟩ := atI_some (xs := [D.int 2, .int 4, .int 8, .int 1000001]) (i := n % 4) (by first | assumption | exact Nat.le_trans few (by decide) | exact Nat.le_trans Y.few (by decide) | omega) (by simp; omega)
  simp at hx
  rcases hx with rfl | rfl | rfl | rfl
  · exact ⟨.int 2, by simp [e], 2, rfl, by omega, by omega⟩
  · exact ⟨.int 4, by simp [e], 4, rfl, by omega, by omega⟩
  · exact ⟨.int 8, by simp [e], 8, rfl, by omega, by omega⟩
  · exact ⟨.int 1000001, by simp [e], 1000001, rfl, by omega, by omega⟩
set_option maxHeartbeats 1000000 in
theorem ok_law_yard {f : Addr} {fd : FuncData} (T : Txt mg) (Fn : Fun K "_law_yard" "_law_yard" s_law_yard f fd) (hm : mg "_law_yard" = some (.ref f)) (hB : Binds K fd ["_law_number", "_law_wide", "_law_most"] []) {F_law_size : List D → Option D} (h_law_size : FnD P w K mg base 1 "_law_size" ["_law_number"] F_law_size) (sp_law_size : ∀ ds, pre_law_size ds → ∃ d, F_law_size ds = some d ∧ post_law_size ds d) {F_law_drawn : List D → Option D} (h_law_drawn : FnD P w K mg base 1 "_law_drawn" ["_law_number", "_law_k"] F_law_drawn) (sp_law_drawn : ∀ ds, pre_law_drawn ds → ∃ d, F_law_drawn ds = some d ∧ post_law_drawn ds d) {F_law_row : List D → Option D} (h_law_row : FnD P w K mg base 2 "_law_row" ["_law_number", "_law_wide", "_law_size_here"] F_law_row) (sp_law_row : ∀ ds, pre_law_row ds → ∃ d, F_law_row ds = some d ∧ post_law_row ds d) {F_law_signed : List D → Option D} (h_law_signed : FnD P w K mg base 1 "_law_signed" ["_law_number", "_law_size_here"] F_law_signed) (sp_law_signed : ∀ ds, pre_law_signed ds → ∃ d, F_law_signed ds = some d ∧ post_law_signed ds d)  :
    ∃ F, FnD P w K mg base 3 "_law_yard" ["_law_number", "_law_wide", "_law_most"] F ∧ spec_law_yard F := by
  refine fn_sp spec_law_yard Fn sc_law_yard hm hB (fun cdv A outer s H E hr => (bv_cons (sv_set 3 sc_law_yard.nd (ev_call h_law_size (hr.mono (by decide)) (av_cons (ev_fdiv (Ev.r (vv 0)) (Ev.r ev_int)) av_nil)))
      (bv_cons (sv_own 4 sc_law_yard.nd (fv_lst av_nil))
      (bv_cons (sv_for PassesOwn.never rfl (iv_range1 rfl T.b_range (ar_cons (Ev.r (ev_mod (Ev.r (vv 0)) (Ev.r (ev_add (Ev.r (vv 2)) (Ev.r ev_int))))) ar_nil)) (pg_name (i := 5) sc_law_yard.nd rfl (by first | exact Or.inl rfl | exact Or.inr rfl)) bindS1 (bv_cons (sv_set 6 sc_law_yard.nd (ev_call h_law_drawn (hr.mono (by decide)) (av_cons (vv 0) (av_cons (vv 5) av_nil))))
      (bv_cons (sv_set 7 sc_law_yard.nd (ev_call h_law_row (hr.mono (by decide)) (av_cons (vv 6) (av_cons (vv 1) (av_cons (vv 3) av_nil)))))
      (bv_cons (sv_set 8 sc_law_yard.nd (ev_call h_law_signed (hr.mono (by decide)) (av_cons (ev_call h_law_drawn (hr.mono (by decide)) (av_cons (vv 6) (av_cons ev_int av_nil))) (av_cons (vv 3) av_nil))))
      (bv_cons (sv_if (ts_w (tw_and (ts_eq hr (Ev.r (ev_mod (Ev.r (vv 6)) (Ev.r ev_int))) (Ev.r ev_int)) (tw_and1 (ts_ne hr (vr 4) (Fv.r (fv_lst av_nil)))))) (bv_cons (sv_set 9 sc_law_yard.nd (ev_item (vr 4) (Ev.r (ev_mod (Ev.r (ev_fdiv (Ev.r (vv 6)) (Ev.r ev_int))) (Ev.r (ev_len rfl T.b_len (ar_cons (vr 4) ar_nil)))))))
      (bv_cons (sv_set 7 sc_law_yard.nd (ev_tuple rfl T.b_tuple (ar_cons (Fv.r (fv_comp (ns := ["_law_part"]) rfl (compScope (fs := (defScope s_law_yard)) (N := ["_law_number", "_law_wide", "_law_most", "_law_size_here", "_law_found", "_law_k", "_law_drawn_here", "_law_row_here", "_law_limit", "_law_other"]) rfl rfl (by decide +kernel)) (ir_seq (Ev.r (ev_item (Ev.r (vv 9)) (Ev.r ev_int)))) bindC1 (fun _ _ _ => ⟨(pg_name (i := 0) (show (["_law_part", "_law_number", "_law_wide", "_law_most", "_law_size_here", "_law_found", "_law_k", "_law_drawn_here", "_law_row_here", "_law_limit", "_law_other"] : List Str).Nodup by decide +kernel) rfl (by first | exact Or.inl rfl | exact Or.inr rfl) (by first | exact Or.inl rfl | exact Or.inr rfl)), tf_nil, (ev_neg (Ev.r (vv 0)))⟩))) ar_nil)))
      (bv_one (sv_set 8 sc_law_yard.nd (ev_max rfl rfl T.b_max (ar_cons (Ev.r (ev_neg (Ev.r ev_int))) (ar_cons (Ev.r (ev_min rfl rfl T.b_min (ar_cons (Ev.r ev_int) (ar_cons (Ev.r (ev_sub (Ev.r (ev_sub (Ev.r (ev_mod (Ev.r (ev_fdiv (Ev.r (vv 6)) (Ev.r ev_int))) (Ev.r ev_int))) (Ev.r ev_int))) (Ev.r (ev_item (Ev.r (vv 9)) (Ev.r ev_int))))) ar_nil)))) ar_nil))))))) bv_nil)
      (bv_one (sv_append 4 (ev_tup (av_cons (vv 7) (av_cons (vv 8) av_nil))))))))))
      (bv_one (sv_ret (ev_tuple rfl T.b_tuple (ar_cons (vr 4) ar_nil)))))))) ?_
  intro F hF
  intro n w mo h1 h2 hq0 hq6
  rw [hF _ rfl]
  have r0 : 0 ≤ n % (mo + 1) := Int.emod_nonneg _ (by first | assumption | exact Nat.le_trans few (by decide) | exact Nat.le_trans Y.few (by decide) | omega)
  have r1 : n % (mo + 1) < mo + 1 := Int.emod_lt_of_pos _ (by first | assumption | exact Nat.le_trans few (by decide) | exact Nat.le_trans Y.few (by decide) | omega)
  have rp : 0 < mo + 1 := by omega
  obtain ⟨s0, es, z, rfl, hz1, hz2⟩ := sp_law_size [.int (n / 8)] ⟨_, rfl⟩
  have cd : CDiv n 8 := ⟨by decide, by decide⟩
  simp [es, cd, rp, rng1_small (j := n % (mo + 1)) (by first | assumption | exact Nat.le_trans few (by decide) | exact Nat.le_trans Y.few (by decide) | omega) (by first | assumption | exact Nat.le_trans few (by decide) | exact Nat.le_trans Y.few (by decide) | omega)]
  generalize hc : forG _ _ _ _ = o
  obtain ⟨ρ', rfl, bs, a, b, c, e, f, rfl, hl, hb⟩ : ∃ ρ', o = some (.nx ρ') ∧ ∃ bs a b c e f, ρ' = [some (.sh (.int n)), some (.sh (.int w)), some (.sh (.int mo)), some (.sh (.int z)), some (.ow bs), a, b, c, e, f] ∧ bs.length = 0 + (rngL 0 (n % (mo + 1)).toNat).length ∧ ∀ b ∈ bs, isBound b w = true := by
    rw [← hc]
    refine forG_inv (fun i ρ' => ∃ bs a b c e f, ρ' = [some (.sh (.int n)), some (.sh (.int w)), some (.sh (.int mo)), some (.sh (.int z)), some (.ow bs), a, b, c, e, f] ∧ bs.length = i ∧ ∀ b ∈ bs, isBound b w = true) _ 0 _ (fun d hd i ρ _ hi hinv => ?_) ⟨[], none, none, none, none, none, rfl, rfl, fun b hb => by cases hb⟩
    obtain ⟨bs, a, b, c, e, f, rfl, hl, hb⟩ := hinv
    rw [rngL_length] at hi
    have hlt : bs.length < sizeLine := small1000 (by first | assumption | exact Nat.le_trans few (by decide) | exact Nat.le_trans Y.few (by decide) | omega)
    obtain ⟨k, hk, rfl⟩ := rngL_mem hd
    rw [Int.zero_add]
    obtain ⟨x1, e1, m, rfl, hm⟩ := sp_law_drawn [.int n, .int k] ⟨_, _, rfl⟩
    obtain ⟨x2, e2, n2, w2, z2, is, q, rfl, hw, his⟩ := sp_law_row [.int m, .int w, .int z] ⟨_, _, _, rfl, h1, h2, hz1, hz2⟩
    injection q with _ q; injection q with q; injection q with q; subst q
    obtain ⟨x3, e3, m3, rfl, _⟩ := sp_law_drawn [.int m, .int 9] ⟨_, _, rfl⟩
    obtain ⟨x4, e4, l, rfl, hl4⟩ := sp_law_signed [.int m3, .int z] ⟨_, _, rfl, hz1, hz2⟩
    by_cases hcond : m % 4 = 1 ∧ bs ≠ []
    · have hne : bs.isEmpty = false := by simpa using hcond.2
      have hpos : 0 < bs.length := List.length_pos_iff.mpr hcond.2
      have p1 : 0 ≤ m / 4 % (bs.length : Int) := Int.emod_nonneg _ (by first | assumption | exact Nat.le_trans few (by decide) | exact Nat.le_trans Y.few (by decide) | omega)
      have p2 : m / 4 % (bs.length : Int) < bs.length := Int.emod_lt_of_pos _ (by first | assumption | exact Nat.le_trans few (by decide) | exact Nat.le_trans Y.few (by decide) | omega)
      obtain ⟨oth, ho, eo⟩ := atI_some p1 p2
      obtain ⟨is2, l2, rfl, hw2, his2, hl2⟩ := bound_inv (hb oth ho)
      have cd4 : CDiv m 4 := ⟨by decide, by decide⟩
      have cd24 : CDiv m 24 := ⟨by decide, by decide⟩
      have lpos : (0 : Int) < bs.length := by omega
      refine ⟨_, set1_ap _ _ _, ?_⟩
      simp [e1, e2, e3, e4, hcond.1, hne, cd4, cd24, hpos, eo, atI_zero, atI_one]
      generalize hc2 : compD _ _ _ _ _ = o2
      have ec2 : o2 = some ((is2.map D.int).map fun x => match x with | .int i => .int (-i) | x => x) := by
        rw [← hc2]
        refine compD_map (ds := is2.map D.int) (by simp [atI_zero]) (fun x hx => ?_) (by rw [List.length_map]; exact le_line (by first | assumption | exact Nat.le_trans few (by decide) | exact Nat.le_trans Y.few (by decide) | omega))
        obtain ⟨i, _, rfl⟩ := List.mem_map.mp hx
        simp
      subst ec2
      simp [appO, hlt, cd24, atI_one]
      refine ⟨by omega, fun b' hb' => ?_⟩
      rcases hb' with hb' | rfl
      · exact hb b' hb'
      · have em : (is2.map ((fun x => match x with | D.int i => D.int (-i) | x => x) ∘ D.int)) = (is2.map fun i => -i).map D.int := by
          rw [List.map_map]
          rfl
        rw [em]
        refine bound_mk (by simpa using hw2) (fun i hi => ?_) ?_
        · obtain ⟨j, hj, rfl⟩ := List.mem_map.mp hi
          have := his2 j hj
          simp [reach] at this ⊢
          omega
        · simp [reach]
          constructor <;> (repeat' split) <;> omega
    · have hskip : ¬ (m % 4 = 1) ∨ bs = [] := by
        by_cases h4 : m % 4 = 1
        · right
          by_cases hbs : bs = []
          · exact hbs
          · exact absurd ⟨h4, hbs⟩ hcond
        · exact .inl h4
      refine ⟨_, set1_ap _ _ _, ?_⟩
      have key : isBound (.tup [.tup (is.map D.int), .int l]) w = true := bound_mk hw his hl4
      have fin : ∀ b' ∈ bs ++ [D.tup [.tup (is.map D.int), .int l]], isBound b' w = true := fun b' hb' => by
        rcases List.mem_append.mp hb' with hb' | hb'
        · exact hb b' hb'
        · simp at hb'
          subst hb'
          exact key
      have sl0 : 0 < sizeLine := by decide
      rcases hskip with h4 | rfl
      · simp [e1, e2, e3, e4, h4, appO, hlt]
        exact ⟨by omega, fun b' hb' => fin b' (by simpa using hb')⟩
      · by_cases h4 : m % 4 = 1
        · simp [e1, e2, e3, e4, h4, appO, sl0]
          exact ⟨by simpa using hl.symm, key⟩
        · simp [e1, e2, e3, e4, h4, appO, sl0]
          exact ⟨by simpa using hl.symm, key⟩
  rw [rngL_length] at hl
  obtain ⟨ys, rfl, hy⟩ := bounds_ys hb
  rw [List.length_map] at hl
  exact ⟨ys, by simp, ⟨by omega, by omega⟩, fun a b hm => hy (a, b) hm⟩
set_option maxHeartbeats 1000000 in
theorem ok_law_product {f : Addr} {fd : FuncData} (T : Txt mg) (Fn : Fun K "_law_product" "_law_product" s_law_product f fd) (hm : mg "_law_product" = some (.ref f)) (hB : Binds K fd ["_law_one", "_law_other"] [])   :
    ∃ F, FnD P w K mg base 1 "_law_product" ["_law_one", "_law_other"] F ∧ spec_law_product F := by
  refine fn_sp spec_law_product Fn sc_law_product hm hB (fun cdv A outer s H E hr => (bv_one (sv_ret (ev_sum rfl rfl T.b_sum (ar_cons (Fv.r (fv_comp (ns := ["_law_left", "_law_right"]) rfl (compScope (fs := (defScope s_law_product)) (N := ["_law_one", "_law_other"]) rfl rfl (by decide +kernel)) (ir_zip rfl T.b_zip (ar_cons (Ev.r (vv 0)) (ar_cons (Ev.r (vv 1)) ar_nil))) bindC2 (fun _ _ _ => ⟨(pg_tup rfl (pgs_cons (pg_name (i := 0) (show (["_law_left", "_law_right", "_law_one", "_law_other"] : List Str).Nodup by decide +kernel) rfl (by first | exact Or.inl rfl | exact Or.inr rfl) (by first | exact Or.inl rfl | exact Or.inr rfl)) (pgs_cons (pg_name (i := 1) (show (["_law_left", "_law_right", "_law_one", "_law_other"] : List Str).Nodup by decide +kernel) rfl (by first | exact Or.inl rfl | exact Or.inr rfl) (by first | exact Or.inl rfl | exact Or.inr rfl)) pgs_nil))), tf_nil, (ev_mul (Ev.r (vv 0)) (Ev.r (vv 1)))⟩))) ar_nil))))) ?_
  intro F hF
  intro n a b hn ha hb hl
  rw [hF _ rfl]
  simp [rowD]
  generalize hc : compD _ _ _ _ _ = o
  have ec : o = some ((List.zipWith (fun i j => i * j) a b).map D.int) := by
    rw [← hc, List.map_zipWith]
    refine compD_zip D.int D.int (as := a) (bs := b) (h := fun i j => .int (i * j)) (by simp [zipD, seqD]) (fun i hi j hj => ?_) hl
    have cm := (ha i hi).cmul (hb j hj) hn hn
    simp [cm]
  subst ec
  have ds := dot_sum a b
  generalize List.zipWith (fun i j => i * j) a b = z at ds
  simp [sumD, seqD, intsD_map, ds]
set_option maxHeartbeats 1000000 in
theorem ok_law_keeps {f : Addr} {fd : FuncData} (T : Txt mg) (Fn : Fun K "_law_keeps" "_law_keeps" s_law_keeps f fd) (hm : mg "_law_keeps" = some (.ref f)) (hB : Binds K fd ["_law_bounds", "_law_point"] []) {F_law_product : List D → Option D} (h_law_product : FnD P w K mg base 1 "_law_product" ["_law_one", "_law_other"] F_law_product) (sp_law_product : spec_law_product F_law_product)  :
    ∃ F, FnD P w K mg base 2 "_law_keeps" ["_law_bounds", "_law_point"] F ∧ spec_law_keeps F := by
  refine fn_sp spec_law_keeps Fn sc_law_keeps hm hB (fun cdv A outer s H E hr => (bv_one (sv_ret (ev_eq hr (Fv.r (fv_comp (ns := ["_law_bound"]) rfl (compScope (fs := (defScope s_law_keeps)) (N := ["_law_bounds", "_law_point"]) rfl rfl (by decide +kernel)) (ir_seq (Ev.r (vv 0))) bindC1 (fun _ _ _ => ⟨(pg_name (i := 0) (show (["_law_bound", "_law_bounds", "_law_point"] : List Str).Nodup by decide +kernel) rfl (by first | exact Or.inl rfl | exact Or.inr rfl) (by first | exact Or.inl rfl | exact Or.inr rfl)), (tf_one (ts_gt (Ev.r (ev_call h_law_product (hr.mono (by decide)) (av_cons (ev_item (Ev.r (vv 0)) (Ev.r ev_int)) (av_cons (ev_item (Ev.r (vv 2)) (Ev.r ev_int)) av_nil)))) (Ev.r (ev_mul (Ev.r (ev_item (Ev.r (vv 0)) (Ev.r ev_int))) (Ev.r (ev_item (Ev.r (vv 2)) (Ev.r ev_int))))))), (vv 0)⟩))) (Fv.r (fv_lst av_nil)))))) ?_
  intro F hF
  intro n ys p hn hy hp hl
  rw [hF _ rfl]
  simp
  generalize hc : compD _ _ _ _ _ = o
  have ec : o = some ((ys.filter fun y => !keepB y p).map bD) := by
    rw [← hc]
    refine compD_filter' bD (as := ys) (h := bD) (p := fun y => !keepB y p) rfl (fun y hm => ?_) (fun y hm _ => rfl) (by first | assumption | exact Nat.le_trans few (by decide) | exact Nat.le_trans Y.few (by decide) | omega)
    have e := sp_law_product n y.1 p.1 hn (hy y hm).row hp.row (hy y hm).len
    have cm := (hy y hm).lim.cmul hp.lim hn hn
    simp [bD, atI_zero, atI_one, e, cm, keepB]
    exact dec_gt
  subst ec
  simp [map_nil, filter_none]
set_option maxHeartbeats 1000000 in
theorem ok_law_whole {f : Addr} {fd : FuncData} (T : Txt mg) (Fn : Fun K "_law_whole" "_law_whole" s_law_whole f fd) (hm : mg "_law_whole" = some (.ref f)) (hB : Binds K fd ["_law_thing"] [])   :
    FnD P w K mg base 1 "_law_whole" ["_law_thing"] M_law_whole := by
  refine fn_body Fn sc_law_whole hm hB (fun cdv A outer s H E hr => (bv_one (sv_ret (ev_and (Ev.r (ev_inst .int rfl T.b_isinstance rfl T.b_int (by decide +kernel) (by decide) (by decide) (Ev.r (vv 0)))) (ev_one (ev_not (Ev.r (ev_inst .bool rfl T.b_isinstance rfl T.b_bool (by decide +kernel) (by decide) (by decide) (Ev.r (vv 0)))))))))) ?_
  intro ds d h
  match ds, h with
  | [x], h =>
    refine ⟨rfl, ?_⟩
    cases h
    cases x <;> rfl
set_option maxHeartbeats 1000000 in
theorem ok_law_is_row {f : Addr} {fd : FuncData} (T : Txt mg) (Fn : Fun K "_law_is_row" "_law_is_row" s_law_is_row f fd) (hm : mg "_law_is_row" = some (.ref f)) (hB : Binds K fd ["_law_thing", "_law_wide"] []) (h_law_whole : FnD P w K mg base 1 "_law_whole" ["_law_thing"] M_law_whole)  :
    FnD P w K mg base 2 "_law_is_row" ["_law_thing", "_law_wide"] M_law_is_row := by
  refine fn_body Fn sc_law_is_row hm hB (fun cdv A outer s H E hr => (bv_one (sv_ret (ev_and (Ev.r (ev_inst .tuple rfl T.b_isinstance rfl T.b_tuple (by decide +kernel) (by decide) (by decide) (Ev.r (vv 0)))) (ev_and (Ev.r (ev_eq hr (Ev.r (ev_len rfl T.b_len (ar_cons (Ev.r (vv 0)) ar_nil))) (Ev.r (vv 1)))) (ev_one (ev_eq hr (Fv.r (fv_comp (ns := ["_law_part"]) rfl (compScope (fs := (defScope s_law_is_row)) (N := ["_law_thing", "_law_wide"]) rfl rfl (by decide +kernel)) (ir_seq (Ev.r (vv 0))) bindC1 (fun _ _ _ => ⟨(pg_name (i := 0) (show (["_law_part", "_law_thing", "_law_wide"] : List Str).Nodup by decide +kernel) rfl (by first | exact Or.inl rfl | exact Or.inr rfl) (by first | exact Or.inl rfl | exact Or.inr rfl)), (tf_one (ts_not (ts_tru (Ev.r (ev_call h_law_whole (hr.mono (by decide)) (av_cons (vv 0) av_nil)))))), (vv 0)⟩))) (Fv.r (fv_lst av_nil))))))))) ?_
  intro ds d h
  match ds, h with
  | [t, .int w], h =>
    refine ⟨rfl, ?_⟩
    obtain ⟨hs, rfl⟩ := gate_some h
    cases t with
    | tup xs =>
      have hl := (shD_tup hs).1
      have c := compD_filter (it := b1 (getS 0) seqD) (c := b1 (b1 (b1 (cons2 (getS 0) fun x => some []) M_is_whole) truD) fun x => some (!x)) (f := getS 0) (ρ := [some (.sh (.tup xs)), some (.sh (.int w))]) (ds := xs) (p := fun x => !isWhole x) (h := fun x => x) rfl (fun x _ => by simp [M_is_whole]) (fun x _ _ => rfl) (le_line hl)
      simp [c, instB, isRow, filter_isEmpty]
      split <;> simp_all
    | _ => rfl
set_option maxHeartbeats 1000000 in
theorem ok_law_is_point {f : Addr} {fd : FuncData} (T : Txt mg) (Fn : Fun K "_law_is_point" "_law_is_point" s_law_is_point f fd) (hm : mg "_law_is_point" = some (.ref f)) (hB : Binds K fd ["_law_thing", "_law_wide"] []) (h_law_is_row : FnD P w K mg base 2 "_law_is_row" ["_law_thing", "_law_wide"] M_law_is_row) (h_law_whole : FnD P w K mg base 1 "_law_whole" ["_law_thing"] M_law_whole)  :
    FnD P w K mg base 3 "_law_is_point" ["_law_thing", "_law_wide"] M_law_is_point := by
  refine fn_body Fn sc_law_is_point hm hB (fun cdv A outer s H E hr => (bv_cons (sv_if (ts_w (tw_or (ts_not (ts_tru (Ev.r (ev_inst .tuple rfl T.b_isinstance rfl T.b_tuple (by decide +kernel) (by decide) (by decide) (Ev.r (vv 0)))))) (tw_or (ts_ne hr (Ev.r (ev_len rfl T.b_len (ar_cons (Ev.r (vv 0)) ar_nil))) (Ev.r ev_int)) (tw_or1 (ts_not (ts_tru (Ev.r (ev_call h_law_is_row (hr.mono (by decide)) (av_cons (ev_item (Ev.r (vv 0)) (Ev.r ev_int)) (av_cons (vv 1) av_nil)))))))))) (bv_one (sv_ret ev_bl)) bv_nil)
      (bv_one (sv_ret (ev_and (Ev.r (ev_call h_law_whole (hr.mono (by decide)) (av_cons (ev_item (Ev.r (vv 0)) (Ev.r ev_int)) av_nil))) (ev_one (ev_gt (Ev.r (ev_item (Ev.r (vv 0)) (Ev.r ev_int))) (Ev.r ev_int)))))))) ?_
  intro ds d h
  match ds, h with
  | [t, .int w], h =>
    refine ⟨rfl, ?_⟩
    obtain ⟨hs, rfl⟩ := gate_some h
    cases t with
    | tup xs =>
      match xs, hs with
      | [], _ => simp [instB, isPoint]
      | [_], _ => simp [instB, isPoint]
      | [r, l], hs =>
        have hr := (shD_tup hs).2 r (by simp)
        cases hq : isRow r w with
        | false => cases l <;> simp [instB, isPoint, atI_zero, atI_one, M_row_at hr, hq]
        | true =>
          cases l with
          | int l => simp [instB, isPoint, atI_zero, atI_one, M_row_at hr, hq, M_is_whole, isWhole]; omega
          | _ => simp [instB, isPoint, atI_zero, atI_one, M_row_at hr, hq, M_is_whole, isWhole]
      | a :: b :: c :: r, _ =>
        have e2 : ¬ ((r.length : Int) + 1 + 1 + 1 = 2) := by omega
        simp [instB, isPoint, e2]
    | _ => simp [instB, isPoint]
set_option maxHeartbeats 1000000 in
theorem ok_law_lies_in {f : Addr} {fd : FuncData} (T : Txt mg) (Fn : Fun K "_law_lies_in" "_law_lies_in" s_law_lies_in f fd) (hm : mg "_law_lies_in" = some (.ref f)) (hB : Binds K fd ["_law_yard_here", "_law_wide", "_law_point"] []) {F_law_keeps : List D → Option D} (h_law_keeps : FnD P w K mg base 2 "_law_keeps" ["_law_bounds", "_law_point"] F_law_keeps) (sp_law_keeps : spec_law_keeps F_law_keeps) (h_law_is_point : FnD P w K mg base 3 "_law_is_point" ["_law_thing", "_law_wide"] M_law_is_point)  :
    ∃ F, FnD P w K mg base 4 "_law_lies_in" ["_law_yard_here", "_law_wide", "_law_point"] F ∧ spec_law_lies_in F := by
  refine fn_sp spec_law_lies_in Fn sc_law_lies_in hm hB (fun cdv A outer s H E hr => (bv_one (sv_ret (ev_and (Ev.r (ev_call h_law_is_point (hr.mono (by decide)) (av_cons (vv 2) (av_cons (vv 1) av_nil)))) (ev_one (ev_call h_law_keeps (hr.mono (by decide)) (av_cons (vv 0) (av_cons (vv 2) av_nil)))))))) ?_
  intro F hF
  intro n ys w' p hn hy hp hl
  rw [hF _ rfl]
  have e1 := M_point_at (t := bD p) (w := w') (sh_b hp.len)
  have e2 := sp_law_keeps n ys p hn hy hp hl
  rw [isPoint_b] at e1
  cases h1 : decide ((p.1.length : Int) = w') && decide (1 ≤ p.2) with
  | true => rw [h1] at e1; simp [e1, e2, h1]
  | false => rw [h1] at e1; simp [e1, h1]
set_option maxHeartbeats 1000000 in
theorem ok_law_are_weights {f : Addr} {fd : FuncData} (T : Txt mg) (Fn : Fun K "_law_are_weights" "_law_are_weights" s_law_are_weights f fd) (hm : mg "_law_are_weights" = some (.ref f)) (hB : Binds K fd ["_law_thing", "_law_many"] []) (h_law_whole : FnD P w K mg base 1 "_law_whole" ["_law_thing"] M_law_whole)  :
    ∃ F, FnD P w K mg base 2 "_law_are_weights" ["_law_thing", "_law_many"] F ∧ spec_law_are_weights F := by
  refine fn_sp spec_law_are_weights Fn sc_law_are_weights hm hB (fun cdv A outer s H E hr => (bv_cons (sv_if (ts_w (tw_or (ts_not (ts_tru (Ev.r (ev_inst .tuple rfl T.b_isinstance rfl T.b_tuple (by decide +kernel) (by decide) (by decide) (Ev.r (vv 0)))))) (tw_or1 (ts_ne hr (Ev.r (ev_len rfl T.b_len (ar_cons (Ev.r (vv 0)) ar_nil))) (Ev.r (vv 1)))))) (bv_one (sv_ret ev_bl)) bv_nil)
      (bv_one (sv_ret (ev_eq hr (Fv.r (fv_comp (ns := ["_law_part"]) rfl (compScope (fs := (defScope s_law_are_weights)) (N := ["_law_thing", "_law_many"]) rfl rfl (by decide +kernel)) (ir_seq (Ev.r (vv 0))) bindC1 (fun _ _ _ => ⟨(pg_name (i := 0) (show (["_law_part", "_law_thing", "_law_many"] : List Str).Nodup by decide +kernel) rfl (by first | exact Or.inl rfl | exact Or.inr rfl) (by first | exact Or.inl rfl | exact Or.inr rfl)), (tf_one (ts_w (tw_or (ts_not (ts_tru (Ev.r (ev_call h_law_whole (hr.mono (by decide)) (av_cons (vv 0) av_nil))))) (tw_or1 (ts_lt (Ev.r (vv 0)) (Ev.r ev_int)))))), (vv 0)⟩))) (Fv.r (fv_lst av_nil))))))) ?_
  intro F hF
  intro ws m hl
  rw [hF _ rfl]
  simp [rowD, instB]
  by_cases hm : (ws.length : Int) = m
  · simp [hm]
    generalize hc : compD _ _ _ _ _ = o
    have ec : o = some ((ws.filter fun i => !decide (0 ≤ i)).map D.int) := by
      rw [← hc]
      refine compD_filter' D.int (as := ws) (h := D.int) (p := fun i => !decide (0 ≤ i)) rfl (fun i hi => ?_) (fun i hi _ => rfl) (by first | assumption | exact Nat.le_trans few (by decide) | exact Nat.le_trans Y.few (by decide) | omega)
      simp [M_is_whole, isWhole]
      exact dec_gt
    subst ec
    simp [map_nil, filter_none]
  · simp [hm]
set_option maxHeartbeats 1000000 in
theorem ok_law_weighed {f : Addr} {fd : FuncData} (T : Txt mg) (Fn : Fun K "_law_weighed" "_law_weighed" s_law_weighed f fd) (hm : mg "_law_weighed" = some (.ref f)) (hB : Binds K fd ["_law_bounds", "_law_weights", "_law_wide"] [])   :
    ∃ F, FnD P w K mg base 1 "_law_weighed" ["_law_bounds", "_law_weights", "_law_wide"] F ∧ spec_law_weighed F := by
  refine fn_sp spec_law_weighed Fn sc_law_weighed hm hB (fun cdv A outer s H E hr => (bv_cons (sv_compS 3 (ns := ["_law_at"]) rfl (compScope (fs := (defScope s_law_weighed)) (N := ["_law_bounds", "_law_weights", "_law_wide", "_law_row_here"]) rfl rfl (by decide +kernel)) (Iv.r (iv_range1 rfl T.b_range (ar_cons (Ev.r (vv 2)) ar_nil))) bindC1 (fun _ _ _ => ⟨(pg_name (i := 0) (show (["_law_at", "_law_bounds", "_law_weights", "_law_wide", "_law_row_here"] : List Str).Nodup by decide +kernel) rfl (by first | exact Or.inl rfl | exact Or.inr rfl) (by first | exact Or.inl rfl | exact Or.inr rfl)), tf_nil, (ev_sum rfl rfl T.b_sum (ar_cons (Fv.r (fv_comp (ns := ["_law_weight", "_law_bound"]) rfl (compScope (fs := (relabelS _ (defScope s_law_weighed))) (N := ["_law_at", "_law_bounds", "_law_weights", "_law_wide", "_law_row_here"]) rfl rfl (by decide +kernel)) (ir_zip rfl T.b_zip (ar_cons (Ev.r (vv 2)) (ar_cons (Ev.r (vv 1)) ar_nil))) bindC2 (fun _ _ _ => ⟨(pg_tup rfl (pgs_cons (pg_name (i := 0) (show (["_law_weight", "_law_bound", "_law_at", "_law_bounds", "_law_weights", "_law_wide", "_law_row_here"] : List Str).Nodup by decide +kernel) rfl (by first | exact Or.inl rfl | exact Or.inr rfl) (by first | exact Or.inl rfl | exact Or.inr rfl)) (pgs_cons (pg_name (i := 1) (show (["_law_weight", "_law_bound", "_law_at", "_law_bounds", "_law_weights", "_law_wide", "_law_row_here"] : List Str).Nodup by decide +kernel) rfl (by first | exact Or.inl rfl | exact Or.inr rfl) (by first | exact Or.inl rfl | exact Or.inr rfl)) pgs_nil))), tf_nil, (ev_mul (Ev.r (vv 0)) (Ev.r (ev_item (Ev.r (ev_item (Ev.r (vv 1)) (Ev.r ev_int))) (Ev.r (vv 2)))))⟩))) ar_nil))⟩) sc_law_weighed.nd)
      (bv_one (sv_ret (ev_tup (av_cons (ev_tuple rfl T.b_tuple (ar_cons (Ev.r (vv 3)) ar_nil)) (av_cons (ev_sum rfl rfl T.b_sum (ar_cons (Fv.r (fv_comp (ns := ["_law_weight", "_law_bound"]) rfl (compScope (fs := (defScope s_law_weighed)) (N := ["_law_bounds", "_law_weights", "_law_wide", "_law_row_here"]) rfl rfl (by decide +kernel)) (ir_zip rfl T.b_zip (ar_cons (Ev.r (vv 1)) (ar_cons (Ev.r (vv 0)) ar_nil))) bindC2 (fun _ _ _ => ⟨(pg_tup rfl (pgs_cons (pg_name (i := 0) (show (["_law_weight", "_law_bound", "_law_bounds", "_law_weights", "_law_wide", "_law_row_here"] : List Str).Nodup by decide +kernel) rfl (by first | exact Or.inl rfl | exact Or.inr rfl) (by first | exact Or.inl rfl | exact Or.inr rfl)) (pgs_cons (pg_name (i := 1) (show (["_law_weight", "_law_bound", "_law_bounds", "_law_weights", "_law_wide", "_law_row_here"] : List Str).Nodup by decide +kernel) rfl (by first | exact Or.inl rfl | exact Or.inr rfl) (by first | exact Or.inl rfl | exact Or.inr rfl)) pgs_nil))), tf_nil, (ev_mul (Ev.r (vv 0)) (Ev.r (ev_item (Ev.r (vv 1)) (Ev.r ev_int))))⟩))) ar_nil)) av_nil))))))) ?_
  intro F hF
  intro n ys ws w' hn hy hw hw3 hl hl2
  generalize hW : (w' : Int) = W
  have hWn : W.toNat = w' := by omega
  rw [hF _ rfl]
  simp
  generalize hc : compD (b1 (cons2 (getS 2) fun x => some []) rng1) _ _ _ _ = o
  have ec : o = some ((wRow ys ws w').map D.int) := by
    rw [← hc]
    unfold wRow
    rw [List.map_map]
    refine compD_map' (fun k : Nat => D.int (0 + (k : Int))) (as := List.range w') (h := D.int ∘ fun k => dot ws (ys.map fun y => nth y.1 k)) ?_ (fun k hk => ?_) (by simp; omega)
    · exact rng_in W w' hw3 hW _ _
    · have hk := List.mem_range.mp hk
      simp
      generalize hc2 : compD _ _ _ _ _ = o2
      have ec2 : o2 = some ((List.zipWith (fun i y => i * nth y.1 k) ws ys).map D.int) := by
        rw [← hc2, List.map_zipWith]
        refine compD_zip D.int bD (as := ws) (bs := ys) (h := fun i y => .int (i * nth y.1 k)) (by simp [zipD, seqD, rowD]) (fun i hi y hm => ?_) hl2
        have e := atI_row (a := y.1) (k := k) (by rw [(hy y hm).2]; exact hk)
        have cm := (hw i hi).cmul (getD_sm (k := k) (hy y hm).1.row) hn hn
        simp [bD, rowD, atI_zero, e, cm]
      subst ec2
      rw [← dot_map]
      generalize List.zipWith _ ws ys = z
      simp [sumD_row]
  subst ec
  simp
  generalize hc3 : compD _ _ _ _ _ = o3
  have ec3 : o3 = some ((List.zipWith (fun i y => i * y.2) ws ys).map D.int) := by
    rw [← hc3, List.map_zipWith]
    refine compD_zip D.int bD (as := ws) (bs := ys) (h := fun i y => .int (i * y.2)) (by simp [zipD, seqD, rowD]) (fun i hi y hm => ?_) hl2
    have cm := (hw i hi).cmul (hy y hm).1.lim hn hn
    simp [bD, atI_one, cm]
  subst ec3
  have el := dot_map (fun y => y.2) ws ys
  generalize List.zipWith _ ws ys = z at el
  simp [sumD_row, el, bD, rowD, wLim]
set_option maxHeartbeats 1000000 in
theorem ok_law_reason {f : Addr} {fd : FuncData} (T : Txt mg) (Fn : Fun K "_law_reason" "_law_reason" s_law_reason f fd) (hm : mg "_law_reason" = some (.ref f)) (hB : Binds K fd ["_law_yard_here", "_law_wide", "_law_bound", "_law_found"] []) {F_law_are_weights : List D → Option D} (h_law_are_weights : FnD P w K mg base 2 "_law_are_weights" ["_law_thing", "_law_many"] F_law_are_weights) (sp_law_are_weights : spec_law_are_weights F_law_are_weights) (h_law_whole : FnD P w K mg base 1 "_law_whole" ["_law_thing"] M_law_whole) {F_law_weighed : List D → Option D} (h_law_weighed : FnD P w K mg base 1 "_law_weighed" ["_law_bounds", "_law_weights", "_law_wide"] F_law_weighed) (sp_law_weighed : spec_law_weighed F_law_weighed)  :
    ∃ F, FnD P w K mg base 3 "_law_reason" ["_law_yard_here", "_law_wide", "_law_bound", "_law_found"] F ∧ spec_law_reason F := by
  refine fn_sp spec_law_reason Fn sc_law_reason hm hB (fun cdv A outer s H E hr => (bv_cons (sv_if (ts_w (tw_or (ts_not (ts_tru (Ev.r (ev_inst .tuple rfl T.b_isinstance rfl T.b_tuple (by decide +kernel) (by decide) (by decide) (Ev.r (vv 3)))))) (tw_or (ts_ne hr (Ev.r (ev_len rfl T.b_len (ar_cons (Ev.r (vv 3)) ar_nil))) (Ev.r ev_int)) (tw_or1 (ts_not (ts_tru (Ev.r (ev_call h_law_are_weights (hr.mono (by decide)) (av_cons (ev_item (Ev.r (vv 3)) (Ev.r ev_int)) (av_cons (ev_len rfl T.b_len (ar_cons (Ev.r (vv 0)) ar_nil)) av_nil)))))))))) (bv_one (sv_ret ev_bl)) bv_nil)
      (bv_cons (sv_if (ts_w (tw_or (ts_not (ts_tru (Ev.r (ev_call h_law_whole (hr.mono (by decide)) (av_cons (ev_item (Ev.r (vv 3)) (Ev.r ev_int)) av_nil))))) (tw_or1 (ts_lt (Ev.r (ev_item (Ev.r (vv 3)) (Ev.r ev_int))) (Ev.r ev_int))))) (bv_one (sv_ret ev_bl)) bv_nil)
      (bv_cons (sv_asg (ev_call h_law_weighed (hr.mono (by decide)) (av_cons (vv 0) (av_cons (ev_item (Ev.r (vv 3)) (Ev.r ev_int)) (av_cons (vv 1) av_nil)))) (pg_tup rfl (pgs_cons (pg_name (i := 4) sc_law_reason.nd rfl (by first | exact Or.inl rfl | exact Or.inr rfl)) (pgs_cons (pg_name (i := 5) sc_law_reason.nd rfl (by first | exact Or.inl rfl | exact Or.inr rfl)) pgs_nil))) bindS2)
      (bv_one (sv_ret (ev_and (Ev.r (ev_eq hr (Ev.r (vv 4)) (Ev.r (ev_tuple rfl T.b_tuple (ar_cons (Fv.r (fv_comp (ns := ["_law_part"]) rfl (compScope (fs := (defScope s_law_reason)) (N := ["_law_yard_here", "_law_wide", "_law_bound", "_law_found", "_law_row_here", "_law_limit"]) rfl rfl (by decide +kernel)) (ir_seq (Ev.r (ev_item (Ev.r (vv 2)) (Ev.r ev_int)))) bindC1 (fun _ _ _ => ⟨(pg_name (i := 0) (show (["_law_part", "_law_yard_here", "_law_wide", "_law_bound", "_law_found", "_law_row_here", "_law_limit"] : List Str).Nodup by decide +kernel) rfl (by first | exact Or.inl rfl | exact Or.inr rfl) (by first | exact Or.inl rfl | exact Or.inr rfl)), tf_nil, (ev_mul (Ev.r (ev_item (Ev.r (vv 4)) (Ev.r ev_int))) (Ev.r (vv 0)))⟩))) ar_nil))))) (ev_one (ev_le (Ev.r (vv 5)) (Ev.r (ev_mul (Ev.r (ev_item (Ev.r (vv 3)) (Ev.r ev_int))) (Ev.r (ev_item (Ev.r (vv 2)) (Ev.r ev_int)))))))))))))) ?_
  intro F hF
  intro n ys w' b ws d hn hy hb hw hd h1 h3 hl hl2
  have hy1 : ∀ y ∈ ys, SmP n y := fun y hm => (hy y hm).1
  have e1 := sp_law_are_weights ws ys.length hl2
  have e2 := sp_law_weighed n ys ws w' (by first | assumption | exact Nat.le_trans few (by decide) | exact Nat.le_trans Y.few (by decide) | omega) hy hw (by first | assumption | exact Nat.le_trans few (by decide) | exact Nat.le_trans Y.few (by decide) | omega) hl hl2
  have e4 := eqOp_row (wRow ys ws w') (b.1.map fun i => d * i)
  have c1 : CMul d b.2 := hd.cmul hb.lim (by first | assumption | exact Nat.le_trans few (by decide) | exact Nat.le_trans Y.few (by decide) | omega) (by first | assumption | exact Nat.le_trans few (by decide) | exact Nat.le_trans Y.few (by decide) | omega)
  have d1 : decide ((ws.length : Int) = (ys.length : Int)) = decide (ws.length = ys.length) := decide_eq_decide.mpr (by first | assumption | exact Nat.le_trans few (by decide) | exact Nat.le_trans Y.few (by decide) | omega)
  rw [d1] at e1
  unfold goodReason
  generalize (w' : Int) = W at e2 ⊢
  generalize (decide (ws.length = ys.length) && ws.all _) = B at e1 ⊢
  rw [hF _ rfl]
  have hcomp : ∀ (r l : Option PV), compD (b1 (b2 (getS 2) (fun x => some (D.int 0)) ixD) seqD) bd1 (fun x => some true) (b2 (b2 (getS 4) (fun x => some (D.int 1)) ixD) (getS 0) mulD) [some (.sh (.tup (ys.map bD))), some (.sh (.int W)), some (.sh (bD b)), some (.sh (.tup [rowD ws, .int d])), r, l] = some ((b.1.map fun i => d * i).map D.int) := fun r l => by
    rw [List.map_map]
    exact compD_map' D.int (as := b.1) (h := D.int ∘ fun i => d * i) (by simp [rowD]) (fun i hi => by simp [atI_one, hd.cmul (hb.row i hi) (by first | assumption | exact Nat.le_trans few (by decide) | exact Nat.le_trans Y.few (by decide) | omega) (by first | assumption | exact Nat.le_trans few (by decide) | exact Nat.le_trans Y.few (by decide) | omega)]) (by have := hb.len; omega)
  generalize (b.1.map fun i => d * i) = Z at e4 hcomp ⊢
  have e5 : eqOp (rowD (wRow ys ws w')) (.tup (Z.map D.int)) = _ := e4
  generalize decide (wRow ys ws w' = Z) = V at e5 ⊢
  cases B with
  | false => simp [e1, atI_zero, instB]
  | true =>
    by_cases hd1 : d < 1
    · have : ¬ 1 ≤ d := by omega
      simp [e1, atI_zero, atI_one, M_is_whole, isWhole, hd1, this, instB]
    · have hd2 : 1 ≤ d := by omega
      cases V <;> simp [e1, atI_zero, atI_one, M_is_whole, isWhole, hd1, hd2, e2, hcomp, e5, c1, instB]
set_option maxHeartbeats 1000000 in
theorem ok_law {f : Addr} {fd : FuncData} (T : Txt mg) (Fn : Fun K "law" "law" s_law f fd) {F_law_mixed : List D → Option D} (h_law_mixed : FnD P w K mg base 2 "_law_mixed" ["_law_script", "_law_k"] F_law_mixed) (sp_law_mixed : ∀ ds, pre_law_mixed ds → ∃ d, F_law_mixed ds = some d ∧ post_law_mixed ds d) {F_law_yard : List D → Option D} (h_law_yard : FnD P w K mg base 3 "_law_yard" ["_law_number", "_law_wide", "_law_most"] F_law_yard) (sp_law_yard : spec_law_yard F_law_yard) {F_law_row : List D → Option D} (h_law_row : FnD P w K mg base 2 "_law_row" ["_law_number", "_law_wide", "_law_size_here"] F_law_row) (sp_law_row : ∀ ds, pre_law_row ds → ∃ d, F_law_row ds = some d ∧ post_law_row ds d) {F_law_signed : List D → Option D} (h_law_signed : FnD P w K mg base 1 "_law_signed" ["_law_number", "_law_size_here"] F_law_signed) (sp_law_signed : ∀ ds, pre_law_signed ds → ∃ d, F_law_signed ds = some d ∧ post_law_signed ds d) {F_law_size : List D → Option D} (h_law_size : FnD P w K mg base 1 "_law_size" ["_law_number"] F_law_size) (sp_law_size : ∀ ds, pre_law_size ds → ∃ d, F_law_size ds = some d ∧ post_law_size ds d) {F_top : List D → Option D} (h_top : FnD P w K mg base 9 "top" ["yard", "wide", "aim"] F_top) (sp_top : spec_top F_top) {F_law_product : List D → Option D} (h_law_product : FnD P w K mg base 1 "_law_product" ["_law_one", "_law_other"] F_law_product) (sp_law_product : spec_law_product F_law_product) {F_follows : List D → Option D} (h_follows : FnD P w K mg base 11 "follows" ["yard", "wide", "bound"] F_follows) (sp_follows : spec_follows F_follows) {F_point_in : List D → Option D} (h_point_in : FnD P w K mg base 6 "point_in" ["yard", "wide"] F_point_in) (sp_point_in : spec_point_in F_point_in) {F_reasons : List D → Option D} (h_reasons : FnD P w K mg base 10 "reasons" ["yard", "wide", "bound"] F_reasons) (sp_reasons : spec_reasons F_reasons) {F_against : List D → Option D} (h_against : FnD P w K mg base 10 "against" ["yard", "wide", "bound"] F_against) (sp_against : spec_against F_against) {F_law_keeps : List D → Option D} (h_law_keeps : FnD P w K mg base 2 "_law_keeps" ["_law_bounds", "_law_point"] F_law_keeps) (sp_law_keeps : spec_law_keeps F_law_keeps) {F_law_lies_in : List D → Option D} (h_law_lies_in : FnD P w K mg base 4 "_law_lies_in" ["_law_yard_here", "_law_wide", "_law_point"] F_law_lies_in) (sp_law_lies_in : spec_law_lies_in F_law_lies_in) {F_law_reason : List D → Option D} (h_law_reason : FnD P w K mg base 3 "_law_reason" ["_law_yard_here", "_law_wide", "_law_bound", "_law_found"] F_law_reason) (sp_law_reason : spec_law_reason F_law_reason) :
    FnOk P w K mg base CX0 12 f fd ["_law_script"] (spD K 1 M_law) := by
  refine fn_body_at Fn sc_law (fun cdv A outer s H E hr => (bv_cons (sv_set 1 sc_law.nd (ev_add (Ev.r ev_int) (Ev.r (ev_mod (Ev.r (ev_call h_law_mixed (hr.mono (by decide)) (av_cons (vv 0) (av_cons ev_int av_nil)))) (Ev.r ev_int)))))
      (bv_cons (sv_set 2 sc_law.nd (ev_call h_law_yard (hr.mono (by decide)) (av_cons (ev_call h_law_mixed (hr.mono (by decide)) (av_cons (vv 0) (av_cons ev_int av_nil))) (av_cons (vv 1) (av_cons ev_int av_nil)))))
      (bv_cons (sv_set 3 sc_law.nd (ev_call h_law_mixed (hr.mono (by decide)) (av_cons (vv 0) (av_cons ev_int av_nil))))
      (bv_cons (sv_set 4 sc_law.nd (ev_call h_law_row (hr.mono (by decide)) (av_cons (ev_call h_law_mixed (hr.mono (by decide)) (av_cons (vv 0) (av_cons ev_int av_nil))) (av_cons (vv 1) (av_cons ev_int av_nil)))))
      (bv_cons (sv_if (ts_w (tw_and (ts_eq hr (Ev.r (ev_mod (Ev.r (vv 3)) (Ev.r ev_int))) (Ev.r ev_int)) (tw_and1 (ts_ne hr (Ev.r (vv 2)) (Ev.r (ev_tup av_nil)))))) (bv_one (sv_set 4 sc_law.nd (ev_item (Ev.r (ev_item (Ev.r (vv 2)) (Ev.r (ev_mod (Ev.r (ev_fdiv (Ev.r (vv 3)) (Ev.r ev_int))) (Ev.r (ev_len rfl T.b_len (ar_cons (Ev.r (vv 2)) ar_nil))))))) (Ev.r ev_int)))) bv_nil)
      (bv_cons (sv_set 5 sc_law.nd (ev_call h_law_signed (hr.mono (by decide)) (av_cons (ev_call h_law_mixed (hr.mono (by decide)) (av_cons (vv 0) (av_cons ev_int av_nil))) (av_cons (ev_call h_law_size (hr.mono (by decide)) (av_cons (ev_fdiv (Ev.r (vv 3)) (Ev.r ev_int)) av_nil)) av_nil))))
      (bv_cons (sv_set 6 sc_law.nd (ev_call h_top (hr.mono (by decide)) (av_cons (vv 2) (av_cons (vv 1) (av_cons (vv 4) av_nil)))))
      (bv_cons (sv_if (ts_w (tw_and (ts_eq hr (Ev.r (ev_item (Ev.r (vv 6)) (Ev.r ev_int))) (Ev.r ev_str)) (tw_and1 (ts_gt (Ev.r (ev_mod (Ev.r (ev_fdiv (Ev.r (vv 3)) (Ev.r ev_int))) (Ev.r ev_int))) (Ev.r ev_int))))) (bv_cons (sv_set 5 sc_law.nd (ev_sub (Ev.r (ev_add (Ev.r (ev_fdiv (Ev.r (ev_call h_law_product (hr.mono (by decide)) (av_cons (vv 4) (av_cons (ev_item (Ev.r (ev_item (Ev.r (vv 6)) (Ev.r ev_int))) (Ev.r ev_int)) av_nil)))) (Ev.r (ev_item (Ev.r (ev_item (Ev.r (vv 6)) (Ev.r ev_int))) (Ev.r ev_int))))) (Ev.r (ev_mod (Ev.r (ev_fdiv (Ev.r (vv 3)) (Ev.r ev_int))) (Ev.r ev_int))))) (Ev.r ev_int)))
      (bv_one (sv_set 5 sc_law.nd (ev_max rfl rfl T.b_max (ar_cons (Ev.r (ev_neg (Ev.r ev_int))) (ar_cons (Ev.r (ev_min rfl rfl T.b_min (ar_cons (Ev.r ev_int) (ar_cons (Ev.r (vv 5)) ar_nil)))) ar_nil)))))) bv_nil)
      (bv_cons (sv_set 7 sc_law.nd (ev_tup (av_cons (vv 4) (av_cons (vv 5) av_nil))))
      (bv_cons (sv_set 8 sc_law.nd (ev_call h_follows (hr.mono (by decide)) (av_cons (vv 2) (av_cons (vv 1) (av_cons (vv 7) av_nil)))))
      (bv_cons (sv_if (ts_isN (Ev.r (ev_call h_point_in (hr.mono (by decide)) (av_cons (vv 2) (av_cons (vv 1) av_nil)))) (Ev.r ev_non)) (bv_one (sv_ret (ev_isB (Ev.r (vv 8)) (Ev.r ev_bl)))) bv_nil)
      (bv_cons (sv_set 9 sc_law.nd (ev_call h_reasons (hr.mono (by decide)) (av_cons (vv 2) (av_cons (vv 1) (av_cons (vv 7) av_nil)))))
      (bv_cons (sv_set 10 sc_law.nd (ev_call h_against (hr.mono (by decide)) (av_cons (vv 2) (av_cons (vv 1) (av_cons (vv 7) av_nil)))))
      (bv_cons (sv_if (ts_isN (Ev.r (vv 9)) (Ev.r ev_non)) (bv_cons (sv_if (ts_w (tw_or (ts_isN (Ev.r (vv 10)) (Ev.r ev_non)) (tw_or (ts_not (ts_tru (Ev.r (ev_call h_law_lies_in (hr.mono (by decide)) (av_cons (vv 2) (av_cons (vv 1) (av_cons (vv 10) av_nil))))))) (tw_or1 (ts_tru (Ev.r (ev_call h_law_keeps (hr.mono (by decide)) (av_cons (ev_tup (av_cons (vv 7) av_nil)) (av_cons (vv 10) av_nil))))))))) (bv_one (sv_ret ev_bl)) bv_nil)
      (bv_one (sv_ret (ev_isB (Ev.r (vv 8)) (Ev.r ev_bl))))) bv_nil)
      (bv_one (sv_ret (ev_and (Ev.r (ev_isN (Ev.r (vv 10)) (Ev.r ev_non))) (ev_and (Ev.r (ev_isB (Ev.r (vv 8)) (Ev.r ev_bl))) (ev_one (ev_call h_law_reason (hr.mono (by decide)) (av_cons (vv 2) (av_cons (vv 1) (av_cons (vv 7) (av_cons (vv 9) av_nil))))))))))))))))))))))))) ?_
  have sp_top := old_top sp_top
  have sp_point_in := old_point_in sp_point_in
  have sp_reasons := old_reasons sp_reasons
  have sp_against := old_against sp_against
  intro ds d h
  match ds, h with
  | [.lst xs], h =>
    refine ⟨rfl, ?_⟩
    have h : (if xs.all isWhole = true then some (D.bl true) else none) = some d := h
    split at h
    · rename_i hx
      cases h
      obtain ⟨ns, rfl⟩ := all_whole hx
      obtain ⟨x0, e0, m0, rfl, g0⟩ := sp_law_mixed [.lst (ns.map D.int), .int 0] ⟨_, _, rfl, by omega⟩
      obtain ⟨x1, e1, m1, rfl, g1⟩ := sp_law_mixed [.lst (ns.map D.int), .int 1] ⟨_, _, rfl, by omega⟩
      obtain ⟨x2, e2, m2, rfl, g2⟩ := sp_law_mixed [.lst (ns.map D.int), .int 2] ⟨_, _, rfl, by omega⟩
      obtain ⟨x3, e3, m3, rfl, g3⟩ := sp_law_mixed [.lst (ns.map D.int), .int 3] ⟨_, _, rfl, by omega⟩
      obtain ⟨x4, e4, m4, rfl, g4⟩ := sp_law_mixed [.lst (ns.map D.int), .int 4] ⟨_, _, rfl, by omega⟩
      obtain ⟨ys, ey, hl, hb⟩ := sp_law_yard m1 (1 + m0 % 3) 6 (by first | assumption | exact Nat.le_trans few (by decide) | exact Nat.le_trans Y.few (by decide) | omega) (by first | assumption | exact Nat.le_trans few (by decide) | exact Nat.le_trans Y.few (by decide) | omega) (by first | assumption | exact Nat.le_trans few (by decide) | exact Nat.le_trans Y.few (by decide) | omega) (by first | assumption | exact Nat.le_trans few (by decide) | exact Nat.le_trans Y.few (by decide) | omega)
      have Y := Yd.of (by first | assumption | exact Nat.le_trans few (by decide) | exact Nat.le_trans Y.few (by decide) | omega) (by first | assumption | exact Nat.le_trans few (by decide) | exact Nat.le_trans Y.few (by decide) | omega) (by first | assumption | exact Nat.le_trans few (by decide) | exact Nat.le_trans Y.few (by decide) | omega) hl hb
      generalize hW : (1 + m0 % 3).toNat = w' at Y
      have hw : 1 + m0 % 3 = (w' : Int) := by omega
      have hw1 := Y.lo
      have hw3 := Y.hi
      rw [hw] at ey
      obtain ⟨zD, es, z, rfl, hz1, hz2⟩ := sp_law_size [.int (m2 / 32)] ⟨_, rfl⟩
      obtain ⟨lD, el, lim0, rfl, hlim0⟩ := sp_law_signed [.int m4, .int z] ⟨_, _, rfl, hz1, hz2⟩
      have c3 : CDiv m2 3 := ⟨by decide, by decide⟩
      have c32 : CDiv m2 32 := ⟨by decide, by decide⟩
      have c128 : CDiv m2 128 := ⟨by decide, by decide⟩
      have c512 : CDiv m2 512 := ⟨by decide, by decide⟩
      obtain ⟨xr, er, n2, w2, z2, is, q, rfl, hwl, his⟩ := sp_law_row [.int m3, .int w', .int 4] ⟨_, _, _, rfl, by omega, by omega, by omega, by omega⟩
      injection q with _ q; injection q with q; injection q with q; subst q
      have er : F_law_row [D.int m3, D.int ↑w', D.int 4] = some (rowD is) := er
      have spp := sp_point_in w' ys Y
      have spt := fun aim => sp_top w' ys aim Y
      have spf := fun b => sp_follows w' ys b Y
      have spr := fun b => sp_reasons w' ys b Y
      have spa := fun b => sp_against w' ys b Y
      have spl := fun p hp => sp_law_lies_in big ys w' p (by decide) (Y.sm (by decide)) hp (by first | exact Nat.le_trans Y.few (by decide) | (have := Y.few; omega))
      have spg := fun b ws d hb hs hd hl => sp_law_reason big ys w' b ws d (by decide) (Y.both (by decide)) hb hs hd Y.lo Y.hi (by first | exact Nat.le_trans Y.few (by decide) | (have := Y.few; omega)) hl
      unfold yD at spp spt spf spr spa
      generalize hWW : (w' : Int) = W at *
      refine bo ?_
      show seqO _ _ [some (.sh (.lst (ns.map D.int))), none, none, none, none, none, none, none, none, none, none] = _
      refine sq_set (.int W) (by simp [e0, hw]) ?_
      dsimp only [List.set]
      refine sq_set (.tup (ys.map bD)) (by simp [e1, ey]) ?_
      dsimp only [List.set]
      refine sq_set (.int m2) (by simp [e2]) ?_
      dsimp only [List.set]
      refine sq_set (rowD is) (by simp [e3, er]) ?_
      dsimp only [List.set]
      refine sq_mid (I31a (.lst (ns.map D.int)) (.int m2) (.int W) w' ys) ?_ ?_
      · by_cases h3 : m2 % 3 = 1
        · by_cases hn : ys = []
          · subst hn
            exact ⟨_, it_f (by simp [h3, neOp_tnil]) rfl, is, by omega, his, rfl⟩
          · have hpos : 0 < ys.length := List.length_pos_iff.mpr hn
            have lpos : (0 : Int) < (ys.length : Int) := by omega
            obtain ⟨y, hym, eyi⟩ := atI_ys (ys := ys) (i := m2 / 3 % (ys.length : Int)) (Int.emod_nonneg _ (by first | assumption | exact Nat.le_trans few (by decide) | exact Nat.le_trans Y.few (by decide) | omega)) (Int.emod_lt_of_pos _ (by first | assumption | exact Nat.le_trans few (by decide) | exact Nat.le_trans Y.few (by decide) | omega))
            have ne := ne_ys hn
            refine ⟨[some (.sh (.lst (ns.map D.int))), some (.sh (.int W)), some (.sh (.tup (ys.map bD))), some (.sh (.int m2)), some (.sh (rowD y.1)), none, none, none, none, none, none], it_t (by simp [h3, ne]) ?_, y.1, Y.len y hym, (Y.bd y hym).row, rfl⟩
            simp [c3, hpos, eyi]
        · exact ⟨_, it_f (by simp [h3]) rfl, is, by omega, his, rfl⟩
      · rintro ρ ⟨aim, ha, hr, rfl⟩
        have har : ∀ i ∈ aim, Sm big i := fun i hi => (Sm.of_reach (hr i hi)).mono (by decide)
        refine sq_set (.int lim0) (by simp [e4, c32, es, el]) ?_
        dsimp only [List.set]
        obtain ⟨R, K, et, eR0, hR⟩ : ∃ R K, F_top [.tup (ys.map bD), .int W, rowD aim] = some R ∧ ixD R (.int 0) = some (.str K) ∧ (K == "top" → ∃ p, ixD R (.int 1) = some (bD p) ∧ Pt w' p ∧ SmP big p) := by
          rcases spt aim ha hr with ⟨ws, et, hc, _⟩ | ⟨q, ws, dv, et, hg, hqs, _, _⟩ | ⟨q, r, et, hg, hqs, _⟩
          · exact ⟨_, "clash", et, atI_zero _ _, fun h => by rw [str_ct] at h; cases h⟩
          · exact ⟨_, "top", et, atI_zero _ _, fun _ => ⟨q, atI_one _ _ _, (top_point hg).1, hqs⟩⟩
          · exact ⟨_, "endless", et, atI_zero _ _, fun h => by rw [str_et] at h; cases h⟩
        refine sq_set R (by simp [et]) ?_
        dsimp only [List.set]
        refine sq_mid (I31b (.lst (ns.map D.int)) (.int m2) (.int W) ys aim R) ?_ ?_
        · by_cases hK : (K == "top") = true
          · obtain ⟨p, eR1, hp, hps⟩ := hR hK
            by_cases h4 : 0 < m2 / 128 % 4
            · have epr := sp_law_product big aim p.1 (by decide) har hps.row (by first | assumption | exact Nat.le_trans few (by decide) | exact Nat.le_trans Y.few (by decide) | omega)
              have cd : CDiv (dot aim p.1) p.2 := ⟨by have := hp.div; omega, Nat.lt_of_lt_of_le (hps.lim.log (by decide)) (by decide)⟩
              generalize dot aim p.1 = dp at epr cd
              refine ⟨_, it_t (by simp [eR0, hK, c128, h4]) (sq_set (.int (dp / p.2 + m2 / 512 % 3 - 1)) (by simp [epr, eR1, cd, c512]) ?_), _, clamp_reach (dp / p.2 + m2 / 512 % 3 - 1), rfl⟩
              dsimp only [List.set]
              simp
            · exact ⟨_, it_f (by simp [eR0, hK, c128, h4]) rfl, lim0, hlim0, rfl⟩
          · have hK : (K == "top") = false := by simpa using hK
            exact ⟨_, it_f (by simp [eR0, hK]) rfl, lim0, hlim0, rfl⟩
        · rintro ρ ⟨lim, hlim, rfl⟩
          have eb : D.tup [rowD aim, .int lim] = bD (aim, lim) := rfl
          refine sq_set (bD (aim, lim)) (by simp [eb]) ?_
          dsimp only [List.set]
          have hb : Bd W (aim, lim) := ⟨by show (aim.length : Int) = W; omega, hr, hlim⟩
          have hbl : (aim, lim).1.length = w' := ha
          generalize (aim, lim) = b at hb hbl ⊢
          have hbs : SmP 20 b := hb.sm (by first | assumption | exact Nat.le_trans few (by decide) | exact Nat.le_trans Y.few (by decide) | omega)
          have hbm : SmP med b := ⟨fun i hi => (hbs.row i hi).mono (by decide), hbs.lim.mono (by decide), hbs.len⟩
          have hbb : SmP big b := ⟨fun i hi => (hbs.row i hi).mono (by decide), hbs.lim.mono (by decide), hbs.len⟩
          obtain ⟨v, ef, hv⟩ := spf b hbl hbm
          refine sq_set (.bl v) (by simp [ef]) ?_
          dsimp only [List.set]
          rcases spp with ⟨p0, ep, hp0, hi0, hps0⟩ | ⟨ep, hno⟩
          · refine sq_if (by simp [ep]) ?_
            have spr := spr b hb ⟨p0, hp0, hi0⟩
            have spa := spa b hb ⟨p0, hp0, hi0⟩
            rcases spr with ⟨ws, dv, err, hg, hws, hdv⟩ | ⟨err, hnf⟩
            · have hf := reason_fol Y.len hg
              rcases spa with ⟨p, ea, hp, hi, hps, hlt⟩ | ⟨ea, _⟩
              · have := hf p hp hi
                omega
              · cases hv.mpr hf
                have eg := spg b ws dv hbb hws hdv (by have := (reason_parts hg).1; have := Y.few; omega)
                rw [hg] at eg
                refine sq_set (.tup [rowD ws, .int dv]) (by simp [err]) ?_
                dsimp only [List.set]
                refine sq_set .non (by simp [ea]) ?_
                dsimp only [List.set]
                refine sq_if rfl ?_
                simp [eg]
            · have hvf : v = false := by
                cases v with
                | false => rfl
                | true => exact (hnf (hv.mp rfl)).elim
              subst hvf
              rcases spa with ⟨p, ea, hp, hi, hps, hlt⟩ | ⟨ea, hf⟩
              · have el := spl p hps
                rw [decide_eq_true (show ((p.1.length : Nat) : Int) = W by have := hp.len; omega), decide_eq_true hp.div, inY_all.mpr hi] at el
                have ek := sp_law_keeps big [b] p (by decide) (fun y hy => by simp at hy; subst hy; exact hbb) hps (by simp)
                have ek2 : ([b].all fun y => keepB y p) = false := by simp [keepB]; omega
                rw [ek2] at ek
                refine sq_set .non (by simp [err]) ?_
                dsimp only [List.set]
                refine sq_set (bD p) (by simp [ea]) ?_
                dsimp only [List.set]
                refine sq_r (it_t (by simp) (sq_if ?_ ?_))
                · simp at ek
                  simp [el, ek]
                · simp
              · exact (hnf hf).elim
          · cases hv.mpr fun p hp hi => (hno p hp hi).elim
            refine sq_r (it_t (by simp [ep]) ?_)
            simp
    · cases h
end
theorem us0 {P : List Value → Prop} (h : P []) : ∀ us : List Value, us.length = 0 → P us := fun us e => (List.length_eq_zero_iff.mp e) ▸ h
theorem usS {n : Nat} {P : List Value → Prop} (h : ∀ (a : Value) (t : List Value), t.length = n → P (a :: t)) : ∀ us : List Value, us.length = n + 1 → P us
  | a :: t, e => h a t (Nat.succ.inj e)
theorem us1 {P : List Value → Prop} (h : ∀ a0 : Value, P [a0]) : ∀ us : List Value, us.length = 1 → P us := usS (P := fun t => P (t)) (fun a0 => us0 (P := fun t => P (a0 :: t)) (h a0))
theorem binds1 {K : PySem.W.Frag} {x qual : Str} {st : Stmt} {f : Addr} {fd : FuncData} {p0 : Str} (F : Fun K x qual st f fd)
    (h : ∀ (kV doc pm : Value) (an : Option Addr) (cdv ct : Value) (a0 : Value), bindArgs (PySem.W.fnOf x qual (defArgs st) (defBody st) (defScope st) .none kV doc pm an cdv ct) ⟨[a0], []⟩ = pure [(p0, a0)]) : Binds K fd [p0] [] :=
  F.binds fun kV doc pm an cdv ct us hl => us1 (P := fun us => bindArgs (PySem.W.fnOf x qual (defArgs st) (defBody st) (defScope st) .none kV doc pm an cdv ct) ⟨us, []⟩ = pure ([p0].zip us)) (h kV doc pm an cdv ct) us hl
theorem us2 {P : List Value → Prop} (h : ∀ a0 a1 : Value, P [a0, a1]) : ∀ us : List Value, us.length = 2 → P us := usS (P := fun t => P (t)) (fun a0 => usS (P := fun t => P (a0 :: t)) (fun a1 => us0 (P := fun t => P (a0 :: a1 :: t)) (h a0 a1)))
theorem binds2 {K : PySem.W.Frag} {x qual : Str} {st : Stmt} {f : Addr} {fd : FuncData} {p0 p1 : Str} (F : Fun K x qual st f fd)
    (h : ∀ (kV doc pm : Value) (an : Option Addr) (cdv ct : Value) (a0 a1 : Value), bindArgs (PySem.W.fnOf x qual (defArgs st) (defBody st) (defScope st) .none kV doc pm an cdv ct) ⟨[a0, a1], []⟩ = pure [(p0, a0), (p1, a1)]) : Binds K fd [p0, p1] [] :=
  F.binds fun kV doc pm an cdv ct us hl => us2 (P := fun us => bindArgs (PySem.W.fnOf x qual (defArgs st) (defBody st) (defScope st) .none kV doc pm an cdv ct) ⟨us, []⟩ = pure ([p0, p1].zip us)) (h kV doc pm an cdv ct) us hl
theorem us3 {P : List Value → Prop} (h : ∀ a0 a1 a2 : Value, P [a0, a1, a2]) : ∀ us : List Value, us.length = 3 → P us := usS (P := fun t => P (t)) (fun a0 => usS (P := fun t => P (a0 :: t)) (fun a1 => usS (P := fun t => P (a0 :: a1 :: t)) (fun a2 => us0 (P := fun t => P (a0 :: a1 :: a2 :: t)) (h a0 a1 a2))))
theorem binds3 {K : PySem.W.Frag} {x qual : Str} {st : Stmt} {f : Addr} {fd : FuncData} {p0 p1 p2 : Str} (F : Fun K x qual st f fd)
    (h : ∀ (kV doc pm : Value) (an : Option Addr) (cdv ct : Value) (a0 a1 a2 : Value), bindArgs (PySem.W.fnOf x qual (defArgs st) (defBody st) (defScope st) .none kV doc pm an cdv ct) ⟨[a0, a1, a2], []⟩ = pure [(p0, a0), (p1, a1), (p2, a2)]) : Binds K fd [p0, p1, p2] [] :=
  F.binds fun kV doc pm an cdv ct us hl => us3 (P := fun us => bindArgs (PySem.W.fnOf x qual (defArgs st) (defBody st) (defScope st) .none kV doc pm an cdv ct) ⟨us, []⟩ = pure ([p0, p1, p2].zip us)) (h kV doc pm an cdv ct) us hl
theorem us4 {P : List Value → Prop} (h : ∀ a0 a1 a2 a3 : Value, P [a0, a1, a2, a3]) : ∀ us : List Value, us.length = 4 → P us := usS (P := fun t => P (t)) (fun a0 => usS (P := fun t => P (a0 :: t)) (fun a1 => usS (P := fun t => P (a0 :: a1 :: t)) (fun a2 => usS (P := fun t => P (a0 :: a1 :: a2 :: t)) (fun a3 => us0 (P := fun t => P (a0 :: a1 :: a2 :: a3 :: t)) (h a0 a1 a2 a3)))))
theorem binds4 {K : PySem.W.Frag} {x qual : Str} {st : Stmt} {f : Addr} {fd : FuncData} {p0 p1 p2 p3 : Str} (F : Fun K x qual st f fd)
    (h : ∀ (kV doc pm : Value) (an : Option Addr) (cdv ct : Value) (a0 a1 a2 a3 : Value), bindArgs (PySem.W.fnOf x qual (defArgs st) (defBody st) (defScope st) .none kV doc pm an cdv ct) ⟨[a0, a1, a2, a3], []⟩ = pure [(p0, a0), (p1, a1), (p2, a2), (p3, a3)]) : Binds K fd [p0, p1, p2, p3] [] :=
  F.binds fun kV doc pm an cdv ct us hl => us4 (P := fun us => bindArgs (PySem.W.fnOf x qual (defArgs st) (defBody st) (defScope st) .none kV doc pm an cdv ct) ⟨us, []⟩ = pure ([p0, p1, p2, p3].zip us)) (h kV doc pm an cdv ct) us hl
set_option maxHeartbeats 0 in
theorem all_mk {l : PySem.W.OpenLaw} {w : World} {K : PySem.W.Frag} {h : Heap} {mg : Str → Option Value} {fa : Addr} (X : K.In h) (G : h.Ns mainGlobals mg) (hfa : mg "law" = some (.ref fa))
    {f0 : Addr} {od0 an0 : Option Addr} {sl0 : Array (Option Value)} {oc0 kV0 dc0 pm0 cd0 ct0 : Value}
    {f1 : Addr} {od1 an1 : Option Addr} {sl1 : Array (Option Value)} {oc1 kV1 dc1 pm1 cd1 ct1 : Value}
    {f2 : Addr} {od2 an2 : Option Addr} {sl2 : Array (Option Value)} {oc2 kV2 dc2 pm2 cd2 ct2 : Value}
    {f3 : Addr} {od3 an3 : Option Addr} {sl3 : Array (Option Value)} {oc3 kV3 dc3 pm3 cd3 ct3 : Value}
    {f4 : Addr} {od4 an4 : Option Addr} {sl4 : Array (Option Value)} {oc4 kV4 dc4 pm4 cd4 ct4 : Value}
    {f5 : Addr} {od5 an5 : Option Addr} {sl5 : Array (Option Value)} {oc5 kV5 dc5 pm5 cd5 ct5 : Value}
    {f6 : Addr} {od6 an6 : Option Addr} {sl6 : Array (Option Value)} {oc6 kV6 dc6 pm6 cd6 ct6 : Value}
    {f7 : Addr} {od7 an7 : Option Addr} {sl7 : Array (Option Value)} {oc7 kV7 dc7 pm7 cd7 ct7 : Value}
    {f8 : Addr} {od8 an8 : Option Addr} {sl8 : Array (Option Value)} {oc8 kV8 dc8 pm8 cd8 ct8 : Value}
    {f9 : Addr} {od9 an9 : Option Addr} {sl9 : Array (Option Value)} {oc9 kV9 dc9 pm9 cd9 ct9 : Value}
    {f10 : Addr} {od10 an10 : Option Addr} {sl10 : Array (Option Value)} {oc10 kV10 dc10 pm10 cd10 ct10 : Value}
    {f11 : Addr} {od11 an11 : Option Addr} {sl11 : Array (Option Value)} {oc11 kV11 dc11 pm11 cd11 ct11 : Value}
    {f12 : Addr} {od12 an12 : Option Addr} {sl12 : Array (Option Value)} {oc12 kV12 dc12 pm12 cd12 ct12 : Value}
    {f13 : Addr} {od13 an13 : Option Addr} {sl13 : Array (Option Value)} {oc13 kV13 dc13 pm13 cd13 ct13 : Value}
    {f14 : Addr} {od14 an14 : Option Addr} {sl14 : Array (Option Value)} {oc14 kV14 dc14 pm14 cd14 ct14 : Value}
    {f15 : Addr} {od15 an15 : Option Addr} {sl15 : Array (Option Value)} {oc15 kV15 dc15 pm15 cd15 ct15 : Value}
    {f16 : Addr} {od16 an16 : Option Addr} {sl16 : Array (Option Value)} {oc16 kV16 dc16 pm16 cd16 ct16 : Value}
    {f17 : Addr} {od17 an17 : Option Addr} {sl17 : Array (Option Value)} {oc17 kV17 dc17 pm17 cd17 ct17 : Value}
    {f18 : Addr} {od18 an18 : Option Addr} {sl18 : Array (Option Value)} {oc18 kV18 dc18 pm18 cd18 ct18 : Value}
    {f19 : Addr} {od19 an19 : Option Addr} {sl19 : Array (Option Value)} {oc19 kV19 dc19 pm19 cd19 ct19 : Value}
    {f20 : Addr} {od20 an20 : Option Addr} {sl20 : Array (Option Value)} {oc20 kV20 dc20 pm20 cd20 ct20 : Value}
    {f21 : Addr} {od21 an21 : Option Addr} {sl21 : Array (Option Value)} {oc21 kV21 dc21 pm21 cd21 ct21 : Value}
    {f22 : Addr} {od22 an22 : Option Addr} {sl22 : Array (Option Value)} {oc22 kV22 dc22 pm22 cd22 ct22 : Value}
    {f23 : Addr} {od23 an23 : Option Addr} {sl23 : Array (Option Value)} {oc23 kV23 dc23 pm23 cd23 ct23 : Value}
    {f24 : Addr} {od24 an24 : Option Addr} {sl24 : Array (Option Value)} {oc24 kV24 dc24 pm24 cd24 ct24 : Value}
    {f25 : Addr} {od25 an25 : Option Addr} {sl25 : Array (Option Value)} {oc25 kV25 dc25 pm25 cd25 ct25 : Value}
    {f26 : Addr} {od26 an26 : Option Addr} {sl26 : Array (Option Value)} {oc26 kV26 dc26 pm26 cd26 ct26 : Value}
    {f27 : Addr} {od27 an27 : Option Addr} {sl27 : Array (Option Value)} {oc27 kV27 dc27 pm27 cd27 ct27 : Value}
    {f28 : Addr} {od28 an28 : Option Addr} {sl28 : Array (Option Value)} {oc28 kV28 dc28 pm28 cd28 ct28 : Value}
    {f29 : Addr} {od29 an29 : Option Addr} {sl29 : Array (Option Value)} {oc29 kV29 dc29 pm29 cd29 ct29 : Value}
    {f30 : Addr} {od30 an30 : Option Addr} {sl30 : Array (Option Value)} {oc30 kV30 dc30 pm30 cd30 ct30 : Value}
    {f31 : Addr} {od31 an31 : Option Addr} {sl31 : Array (Option Value)} {oc31 kV31 dc31 pm31 cd31 ct31 : Value}
    {f32 : Addr} {od32 an32 : Option Addr} {sl32 : Array (Option Value)} {oc32 kV32 dc32 pm32 cd32 ct32 : Value}
    {f33 : Addr} {od33 an33 : Option Addr} {sl33 : Array (Option Value)} {oc33 kV33 dc33 pm33 cd33 ct33 : Value}
    {f34 : Addr} {od34 an34 : Option Addr} {sl34 : Array (Option Value)} {oc34 kV34 dc34 pm34 cd34 ct34 : Value}
    {f35 : Addr} {od35 an35 : Option Addr} {sl35 : Array (Option Value)} {oc35 kV35 dc35 pm35 cd35 ct35 : Value}
    {f36 : Addr} {od36 an36 : Option Addr} {sl36 : Array (Option Value)} {oc36 kV36 dc36 pm36 cd36 ct36 : Value}
    {f37 : Addr} {od37 an37 : Option Addr} {sl37 : Array (Option Value)} {oc37 kV37 dc37 pm37 cd37 ct37 : Value}
    {f38 : Addr} {od38 an38 : Option Addr} {sl38 : Array (Option Value)} {oc38 kV38 dc38 pm38 cd38 ct38 : Value}
    {f39 : Addr} {od39 an39 : Option Addr} {sl39 : Array (Option Value)} {oc39 kV39 dc39 pm39 cd39 ct39 : Value}
    {f40 : Addr} {od40 an40 : Option Addr} {sl40 : Array (Option Value)} {oc40 kV40 dc40 pm40 cd40 ct40 : Value}
    {f41 : Addr} {od41 an41 : Option Addr} {sl41 : Array (Option Value)} {oc41 kV41 dc41 pm41 cd41 ct41 : Value}
    {f42 : Addr} {od42 an42 : Option Addr} {sl42 : Array (Option Value)} {oc42 kV42 dc42 pm42 cd42 ct42 : Value}
    {f43 : Addr} {od43 an43 : Option Addr} {sl43 : Array (Option Value)} {oc43 kV43 dc43 pm43 cd43 ct43 : Value}
    {f44 : Addr} {od44 an44 : Option Addr} {sl44 : Array (Option Value)} {oc44 kV44 dc44 pm44 cd44 ct44 : Value}
    {f45 : Addr} {od45 an45 : Option Addr} {sl45 : Array (Option Value)} {oc45 kV45 dc45 pm45 cd45 ct45 : Value}
    {t0 : Tok}
    {t1 : Tok}
    {t2 : Tok}
    (a0 : PySem.W.nsIn K mainGlobals "_law_cell_at" = some (some (.ref f0)))
    (l0 : K.lookup f0 = some ⟨oc0, od0, .func (PySem.W.fnOf "_law_cell_at" "_law_cell_at" (defArgs s_law_cell_at) (defBody s_law_cell_at) (defScope s_law_cell_at) .none kV0 dc0 pm0 an0 cd0 ct0), sl0⟩)
    (c0 : PySem.W.codeIn K cd0 "_law_cell_at" = true) (k0 : PySem.W.keepIn K (.ref f0) = true)
    (a1 : PySem.W.nsIn K mainGlobals "_law_mixed" = some (some (.ref f1)))
    (l1 : K.lookup f1 = some ⟨oc1, od1, .func (PySem.W.fnOf "_law_mixed" "_law_mixed" (defArgs s_law_mixed) (defBody s_law_mixed) (defScope s_law_mixed) .none kV1 dc1 pm1 an1 cd1 ct1), sl1⟩)
    (c1 : PySem.W.codeIn K cd1 "_law_mixed" = true) (k1 : PySem.W.keepIn K (.ref f1) = true)
    (a2 : PySem.W.nsIn K mainGlobals "_law_size" = some (some (.ref f2)))
    (l2 : K.lookup f2 = some ⟨oc2, od2, .func (PySem.W.fnOf "_law_size" "_law_size" (defArgs s_law_size) (defBody s_law_size) (defScope s_law_size) .none kV2 dc2 pm2 an2 cd2 ct2), sl2⟩)
    (c2 : PySem.W.codeIn K cd2 "_law_size" = true) (k2 : PySem.W.keepIn K (.ref f2) = true)
    (a3 : PySem.W.nsIn K mainGlobals "_law_drawn" = some (some (.ref f3)))
    (l3 : K.lookup f3 = some ⟨oc3, od3, .func (PySem.W.fnOf "_law_drawn" "_law_drawn" (defArgs s_law_drawn) (defBody s_law_drawn) (defScope s_law_drawn) .none kV3 dc3 pm3 an3 cd3 ct3), sl3⟩)
    (c3 : PySem.W.codeIn K cd3 "_law_drawn" = true) (k3 : PySem.W.keepIn K (.ref f3) = true)
    (a4 : PySem.W.nsIn K mainGlobals "_law_signed" = some (some (.ref f4)))
    (l4 : K.lookup f4 = some ⟨oc4, od4, .func (PySem.W.fnOf "_law_signed" "_law_signed" (defArgs s_law_signed) (defBody s_law_signed) (defScope s_law_signed) .none kV4 dc4 pm4 an4 cd4 ct4), sl4⟩)
    (c4 : PySem.W.codeIn K cd4 "_law_signed" = true) (k4 : PySem.W.keepIn K (.ref f4) = true)
    (a5 : PySem.W.nsIn K mainGlobals "_law_row" = some (some (.ref f5)))
    (l5 : K.lookup f5 = some ⟨oc5, od5, .func (PySem.W.fnOf "_law_row" "_law_row" (defArgs s_law_row) (defBody s_law_row) (defScope s_law_row) .none kV5 dc5 pm5 an5 cd5 ct5), sl5⟩)
    (c5 : PySem.W.codeIn K cd5 "_law_row" = true) (k5 : PySem.W.keepIn K (.ref f5) = true)
    (a6 : PySem.W.nsIn K mainGlobals "_law_yard" = some (some (.ref f6)))
    (l6 : K.lookup f6 = some ⟨oc6, od6, .func (PySem.W.fnOf "_law_yard" "_law_yard" (defArgs s_law_yard) (defBody s_law_yard) (defScope s_law_yard) .none kV6 dc6 pm6 an6 cd6 ct6), sl6⟩)
    (c6 : PySem.W.codeIn K cd6 "_law_yard" = true) (k6 : PySem.W.keepIn K (.ref f6) = true)
    (a7 : PySem.W.nsIn K mainGlobals "product" = some (some (.ref f7)))
    (l7 : K.lookup f7 = some ⟨oc7, od7, .func (PySem.W.fnOf "product" "product" (defArgs s_product) (defBody s_product) (defScope s_product) .none kV7 dc7 pm7 an7 cd7 ct7), sl7⟩)
    (c7 : PySem.W.codeIn K cd7 "product" = true) (k7 : PySem.W.keepIn K (.ref f7) = true)
    (a8 : PySem.W.nsIn K mainGlobals "weighted_limit" = some (some (.ref f8)))
    (l8 : K.lookup f8 = some ⟨oc8, od8, .func (PySem.W.fnOf "weighted_limit" "weighted_limit" (defArgs s_weighted_limit) (defBody s_weighted_limit) (defScope s_weighted_limit) .none kV8 dc8 pm8 an8 cd8 ct8), sl8⟩)
    (c8 : PySem.W.codeIn K cd8 "weighted_limit" = true) (k8 : PySem.W.keepIn K (.ref f8) = true)
    (a9 : PySem.W.nsIn K mainGlobals "first_clash" = some (some (.ref f9)))
    (l9 : K.lookup f9 = some ⟨oc9, od9, .func (PySem.W.fnOf "first_clash" "first_clash" (defArgs s_first_clash) (defBody s_first_clash) (defScope s_first_clash) .none kV9 dc9 pm9 an9 cd9 ct9), sl9⟩)
    (c9 : PySem.W.codeIn K cd9 "first_clash" = true) (k9 : PySem.W.keepIn K (.ref f9) = true)
    (a10 : PySem.W.nsIn K mainGlobals "single_weights" = some (some (.ref f10)))
    (l10 : K.lookup f10 = some ⟨oc10, od10, .func (PySem.W.fnOf "single_weights" "single_weights" (defArgs s_single_weights) (defBody s_single_weights) (defScope s_single_weights) .none kV10 dc10 pm10 an10 cd10 ct10), sl10⟩)
    (c10 : PySem.W.codeIn K cd10 "single_weights" = true) (k10 : PySem.W.keepIn K (.ref f10) = true)
    (a11 : PySem.W.nsIn K mainGlobals "all_single_weights" = some (some (.ref f11)))
    (l11 : K.lookup f11 = some ⟨oc11, od11, .func (PySem.W.fnOf "all_single_weights" "all_single_weights" (defArgs s_all_single_weights) (defBody s_all_single_weights) (defScope s_all_single_weights) .none kV11 dc11 pm11 an11 cd11 ct11), sl11⟩)
    (c11 : PySem.W.codeIn K cd11 "all_single_weights" = true) (k11 : PySem.W.keepIn K (.ref f11) = true)
    (a12 : PySem.W.nsIn K mainGlobals "used_by_either" = some (some (.ref f12)))
    (l12 : K.lookup f12 = some ⟨oc12, od12, .func (PySem.W.fnOf "used_by_either" "used_by_either" (defArgs s_used_by_either) (defBody s_used_by_either) (defScope s_used_by_either) .none kV12 dc12 pm12 an12 cd12 ct12), sl12⟩)
    (c12 : PySem.W.codeIn K cd12 "used_by_either" = true) (k12 : PySem.W.keepIn K (.ref f12) = true)
    (a13 : PySem.W.nsIn K mainGlobals "common_divisor" = some (some (.ref f13)))
    (l13 : K.lookup f13 = some ⟨oc13, od13, .func (PySem.W.fnOf "common_divisor" "common_divisor" (defArgs s_common_divisor) (defBody s_common_divisor) (defScope s_common_divisor) .none kV13 dc13 pm13 an13 cd13 ct13), sl13⟩)
    (c13 : PySem.W.codeIn K cd13 "common_divisor" = true) (k13 : PySem.W.keepIn K (.ref f13) = true)
    (a14 : PySem.W.nsIn K mainGlobals "shortened" = some (some (.ref f14)))
    (l14 : K.lookup f14 = some ⟨oc14, od14, .func (PySem.W.fnOf "shortened" "shortened" (defArgs s_shortened) (defBody s_shortened) (defScope s_shortened) .none kV14 dc14 pm14 an14 cd14 ct14), sl14⟩)
    (c14 : PySem.W.codeIn K cd14 "shortened" = true) (k14 : PySem.W.keepIn K (.ref f14) = true)
    (a15 : PySem.W.nsIn K mainGlobals "cancelling_sum" = some (some (.ref f15)))
    (l15 : K.lookup f15 = some ⟨oc15, od15, .func (PySem.W.fnOf "cancelling_sum" "cancelling_sum" (defArgs s_cancelling_sum) (defBody s_cancelling_sum) (defScope s_cancelling_sum) .none kV15 dc15 pm15 an15 cd15 ct15), sl15⟩)
    (c15 : PySem.W.codeIn K cd15 "cancelling_sum" = true) (k15 : PySem.W.keepIn K (.ref f15) = true)
    (a16 : PySem.W.nsIn K mainGlobals "cancelled" = some (some (.ref f16)))
    (l16 : K.lookup f16 = some ⟨oc16, od16, .func (PySem.W.fnOf "cancelled" "cancelled" (defArgs s_cancelled) (defBody s_cancelled) (defScope s_cancelled) .none kV16 dc16 pm16 an16 cd16 ct16), sl16⟩)
    (c16 : PySem.W.codeIn K cd16 "cancelled" = true) (k16 : PySem.W.keepIn K (.ref f16) = true)
    (a17 : PySem.W.nsIn K mainGlobals "numbers_at" = some (some (.ref f17)))
    (l17 : K.lookup f17 = some ⟨oc17, od17, .func (PySem.W.fnOf "numbers_at" "numbers_at" (defArgs s_numbers_at) (defBody s_numbers_at) (defScope s_numbers_at) .none kV17 dc17 pm17 an17 cd17 ct17), sl17⟩)
    (c17 : PySem.W.codeIn K cd17 "numbers_at" = true) (k17 : PySem.W.keepIn K (.ref f17) = true)
    (a18 : PySem.W.nsIn K mainGlobals "cancelling_levels" = some (some (.ref f18)))
    (l18 : K.lookup f18 = some ⟨oc18, od18, .func (PySem.W.fnOf "cancelling_levels" "cancelling_levels" (defArgs s_cancelling_levels) (defBody s_cancelling_levels) (defScope s_cancelling_levels) .none kV18 dc18 pm18 an18 cd18 ct18), sl18⟩)
    (c18 : PySem.W.codeIn K cd18 "cancelling_levels" = true) (k18 : PySem.W.keepIn K (.ref f18) = true)
    (a19 : PySem.W.nsIn K mainGlobals "clash" = some (some (.ref f19)))
    (l19 : K.lookup f19 = some ⟨oc19, od19, .func (PySem.W.fnOf "clash" "clash" (defArgs s_clash) (defBody s_clash) (defScope s_clash) .none kV19 dc19 pm19 an19 cd19 ct19), sl19⟩)
    (c19 : PySem.W.codeIn K cd19 "clash" = true) (k19 : PySem.W.keepIn K (.ref f19) = true)
    (a20 : PySem.W.nsIn K mainGlobals "turned" = some (some (.ref f20)))
    (l20 : K.lookup f20 = some ⟨oc20, od20, .func (PySem.W.fnOf "turned" "turned" (defArgs s_turned) (defBody s_turned) (defScope s_turned) .none kV20 dc20 pm20 an20 cd20 ct20), sl20⟩)
    (c20 : PySem.W.codeIn K cd20 "turned" = true) (k20 : PySem.W.keepIn K (.ref f20) = true)
    (a21 : PySem.W.nsIn K mainGlobals "ceilings" = some (some (.ref f21)))
    (l21 : K.lookup f21 = some ⟨oc21, od21, .func (PySem.W.fnOf "ceilings" "ceilings" (defArgs s_ceilings) (defBody s_ceilings) (defScope s_ceilings) .none kV21 dc21 pm21 an21 cd21 ct21), sl21⟩)
    (c21 : PySem.W.codeIn K cd21 "ceilings" = true) (k21 : PySem.W.keepIn K (.ref f21) = true)
    (a22 : PySem.W.nsIn K mainGlobals "weighted" = some (some (.ref f22)))
    (l22 : K.lookup f22 = some ⟨oc22, od22, .func (PySem.W.fnOf "weighted" "weighted" (defArgs s_weighted) (defBody s_weighted) (defScope s_weighted) .none kV22 dc22 pm22 an22 cd22 ct22), sl22⟩)
    (c22 : PySem.W.codeIn K cd22 "weighted" = true) (k22 : PySem.W.keepIn K (.ref f22) = true)
    (a23 : PySem.W.nsIn K mainGlobals "raised_to_edge" = some (some (.ref f23)))
    (l23 : K.lookup f23 = some ⟨oc23, od23, .func (PySem.W.fnOf "raised_to_edge" "raised_to_edge" (defArgs s_raised_to_edge) (defBody s_raised_to_edge) (defScope s_raised_to_edge) .none kV23 dc23 pm23 an23 cd23 ct23), sl23⟩)
    (c23 : PySem.W.codeIn K cd23 "raised_to_edge" = true) (k23 : PySem.W.keepIn K (.ref f23) = true)
    (a24 : PySem.W.nsIn K mainGlobals "keeps" = some (some (.ref f24)))
    (l24 : K.lookup f24 = some ⟨oc24, od24, .func (PySem.W.fnOf "keeps" "keeps" (defArgs s_keeps) (defBody s_keeps) (defScope s_keeps) .none kV24 dc24 pm24 an24 cd24 ct24), sl24⟩)
    (c24 : PySem.W.codeIn K cd24 "keeps" = true) (k24 : PySem.W.keepIn K (.ref f24) = true)
    (a25 : PySem.W.nsIn K mainGlobals "kept" = some (some (.ref f25)))
    (l25 : K.lookup f25 = some ⟨oc25, od25, .func (PySem.W.fnOf "kept" "kept" (defArgs s_kept) (defBody s_kept) (defScope s_kept) .none kV25 dc25 pm25 an25 cd25 ct25), sl25⟩)
    (c25 : PySem.W.codeIn K cd25 "kept" = true) (k25 : PySem.W.keepIn K (.ref f25) = true)
    (a26 : PySem.W.nsIn K mainGlobals "raised" = some (some (.ref f26)))
    (l26 : K.lookup f26 = some ⟨oc26, od26, .func (PySem.W.fnOf "raised" "raised" (defArgs s_raised) (defBody s_raised) (defScope s_raised) .none kV26 dc26 pm26 an26 cd26 ct26), sl26⟩)
    (c26 : PySem.W.codeIn K cd26 "raised" = true) (k26 : PySem.W.keepIn K (.ref f26) = true)
    (a27 : PySem.W.nsIn K mainGlobals "point_in" = some (some (.ref f27)))
    (l27 : K.lookup f27 = some ⟨oc27, od27, .func (PySem.W.fnOf "point_in" "point_in" (defArgs s_point_in) (defBody s_point_in) (defScope s_point_in) .none kV27 dc27 pm27 an27 cd27 ct27), sl27⟩)
    (c27 : PySem.W.codeIn K cd27 "point_in" = true) (k27 : PySem.W.keepIn K (.ref f27) = true)
    (a28 : PySem.W.nsIn K mainGlobals "point_at_least" = some (some (.ref f28)))
    (l28 : K.lookup f28 = some ⟨oc28, od28, .func (PySem.W.fnOf "point_at_least" "point_at_least" (defArgs s_point_at_least) (defBody s_point_at_least) (defScope s_point_at_least) .none kV28 dc28 pm28 an28 cd28 ct28), sl28⟩)
    (c28 : PySem.W.codeIn K cd28 "point_at_least" = true) (k28 : PySem.W.keepIn K (.ref f28) = true)
    (a29 : PySem.W.nsIn K mainGlobals "rising_way" = some (some (.ref f29)))
    (l29 : K.lookup f29 = some ⟨oc29, od29, .func (PySem.W.fnOf "rising_way" "rising_way" (defArgs s_rising_way) (defBody s_rising_way) (defScope s_rising_way) .none kV29 dc29 pm29 an29 cd29 ct29), sl29⟩)
    (c29 : PySem.W.codeIn K cd29 "rising_way" = true) (k29 : PySem.W.keepIn K (.ref f29) = true)
    (a30 : PySem.W.nsIn K mainGlobals "lowest_ceiling" = some (some (.ref f30)))
    (l30 : K.lookup f30 = some ⟨oc30, od30, .func (PySem.W.fnOf "lowest_ceiling" "lowest_ceiling" (defArgs s_lowest_ceiling) (defBody s_lowest_ceiling) (defScope s_lowest_ceiling) .none kV30 dc30 pm30 an30 cd30 ct30), sl30⟩)
    (c30 : PySem.W.codeIn K cd30 "lowest_ceiling" = true) (k30 : PySem.W.keepIn K (.ref f30) = true)
    (a31 : PySem.W.nsIn K mainGlobals "top" = some (some (.ref f31)))
    (l31 : K.lookup f31 = some ⟨oc31, od31, .func (PySem.W.fnOf "top" "top" (defArgs s_top) (defBody s_top) (defScope s_top) .none kV31 dc31 pm31 an31 cd31 ct31), sl31⟩)
    (c31 : PySem.W.codeIn K cd31 "top" = true) (k31 : PySem.W.keepIn K (.ref f31) = true)
    (a32 : PySem.W.nsIn K mainGlobals "_law_product" = some (some (.ref f32)))
    (l32 : K.lookup f32 = some ⟨oc32, od32, .func (PySem.W.fnOf "_law_product" "_law_product" (defArgs s_law_product) (defBody s_law_product) (defScope s_law_product) .none kV32 dc32 pm32 an32 cd32 ct32), sl32⟩)
    (c32 : PySem.W.codeIn K cd32 "_law_product" = true) (k32 : PySem.W.keepIn K (.ref f32) = true)
    (a33 : PySem.W.nsIn K mainGlobals "carried_beyond" = some (some (.ref f33)))
    (l33 : K.lookup f33 = some ⟨oc33, od33, .func (PySem.W.fnOf "carried_beyond" "carried_beyond" (defArgs s_carried_beyond) (defBody s_carried_beyond) (defScope s_carried_beyond) .none kV33 dc33 pm33 an33 cd33 ct33), sl33⟩)
    (c33 : PySem.W.codeIn K cd33 "carried_beyond" = true) (k33 : PySem.W.keepIn K (.ref f33) = true)
    (a34 : PySem.W.nsIn K mainGlobals "against" = some (some (.ref f34)))
    (l34 : K.lookup f34 = some ⟨oc34, od34, .func (PySem.W.fnOf "against" "against" (defArgs s_against) (defBody s_against) (defScope s_against) .none kV34 dc34 pm34 an34 cd34 ct34), sl34⟩)
    (c34 : PySem.W.codeIn K cd34 "against" = true) (k34 : PySem.W.keepIn K (.ref f34) = true)
    (a35 : PySem.W.nsIn K mainGlobals "follows" = some (some (.ref f35)))
    (l35 : K.lookup f35 = some ⟨oc35, od35, .func (PySem.W.fnOf "follows" "follows" (defArgs s_follows) (defBody s_follows) (defScope s_follows) .none kV35 dc35 pm35 an35 cd35 ct35), sl35⟩)
    (c35 : PySem.W.codeIn K cd35 "follows" = true) (k35 : PySem.W.keepIn K (.ref f35) = true)
    (a36 : PySem.W.nsIn K mainGlobals "reasons" = some (some (.ref f36)))
    (l36 : K.lookup f36 = some ⟨oc36, od36, .func (PySem.W.fnOf "reasons" "reasons" (defArgs s_reasons) (defBody s_reasons) (defScope s_reasons) .none kV36 dc36 pm36 an36 cd36 ct36), sl36⟩)
    (c36 : PySem.W.codeIn K cd36 "reasons" = true) (k36 : PySem.W.keepIn K (.ref f36) = true)
    (a37 : PySem.W.nsIn K mainGlobals "_law_keeps" = some (some (.ref f37)))
    (l37 : K.lookup f37 = some ⟨oc37, od37, .func (PySem.W.fnOf "_law_keeps" "_law_keeps" (defArgs s_law_keeps) (defBody s_law_keeps) (defScope s_law_keeps) .none kV37 dc37 pm37 an37 cd37 ct37), sl37⟩)
    (c37 : PySem.W.codeIn K cd37 "_law_keeps" = true) (k37 : PySem.W.keepIn K (.ref f37) = true)
    (a38 : PySem.W.nsIn K mainGlobals "_law_whole" = some (some (.ref f38)))
    (l38 : K.lookup f38 = some ⟨oc38, od38, .func (PySem.W.fnOf "_law_whole" "_law_whole" (defArgs s_law_whole) (defBody s_law_whole) (defScope s_law_whole) .none kV38 dc38 pm38 an38 cd38 ct38), sl38⟩)
    (c38 : PySem.W.codeIn K cd38 "_law_whole" = true) (k38 : PySem.W.keepIn K (.ref f38) = true)
    (a39 : PySem.W.nsIn K mainGlobals "_law_is_row" = some (some (.ref f39)))
    (l39 : K.lookup f39 = some ⟨oc39, od39, .func (PySem.W.fnOf "_law_is_row" "_law_is_row" (defArgs s_law_is_row) (defBody s_law_is_row) (defScope s_law_is_row) .none kV39 dc39 pm39 an39 cd39 ct39), sl39⟩)
    (c39 : PySem.W.codeIn K cd39 "_law_is_row" = true) (k39 : PySem.W.keepIn K (.ref f39) = true)
    (a40 : PySem.W.nsIn K mainGlobals "_law_is_point" = some (some (.ref f40)))
    (l40 : K.lookup f40 = some ⟨oc40, od40, .func (PySem.W.fnOf "_law_is_point" "_law_is_point" (defArgs s_law_is_point) (defBody s_law_is_point) (defScope s_law_is_point) .none kV40 dc40 pm40 an40 cd40 ct40), sl40⟩)
    (c40 : PySem.W.codeIn K cd40 "_law_is_point" = true) (k40 : PySem.W.keepIn K (.ref f40) = true)
    (a41 : PySem.W.nsIn K mainGlobals "_law_lies_in" = some (some (.ref f41)))
    (l41 : K.lookup f41 = some ⟨oc41, od41, .func (PySem.W.fnOf "_law_lies_in" "_law_lies_in" (defArgs s_law_lies_in) (defBody s_law_lies_in) (defScope s_law_lies_in) .none kV41 dc41 pm41 an41 cd41 ct41), sl41⟩)
    (c41 : PySem.W.codeIn K cd41 "_law_lies_in" = true) (k41 : PySem.W.keepIn K (.ref f41) = true)
    (a42 : PySem.W.nsIn K mainGlobals "_law_are_weights" = some (some (.ref f42)))
    (l42 : K.lookup f42 = some ⟨oc42, od42, .func (PySem.W.fnOf "_law_are_weights" "_law_are_weights" (defArgs s_law_are_weights) (defBody s_law_are_weights) (defScope s_law_are_weights) .none kV42 dc42 pm42 an42 cd42 ct42), sl42⟩)
    (c42 : PySem.W.codeIn K cd42 "_law_are_weights" = true) (k42 : PySem.W.keepIn K (.ref f42) = true)
    (a43 : PySem.W.nsIn K mainGlobals "_law_weighed" = some (some (.ref f43)))
    (l43 : K.lookup f43 = some ⟨oc43, od43, .func (PySem.W.fnOf "_law_weighed" "_law_weighed" (defArgs s_law_weighed) (defBody s_law_weighed) (defScope s_law_weighed) .none kV43 dc43 pm43 an43 cd43 ct43), sl43⟩)
    (c43 : PySem.W.codeIn K cd43 "_law_weighed" = true) (k43 : PySem.W.keepIn K (.ref f43) = true)
    (a44 : PySem.W.nsIn K mainGlobals "_law_reason" = some (some (.ref f44)))
    (l44 : K.lookup f44 = some ⟨oc44, od44, .func (PySem.W.fnOf "_law_reason" "_law_reason" (defArgs s_law_reason) (defBody s_law_reason) (defScope s_law_reason) .none kV44 dc44 pm44 an44 cd44 ct44), sl44⟩)
    (c44 : PySem.W.codeIn K cd44 "_law_reason" = true) (k44 : PySem.W.keepIn K (.ref f44) = true)
    (a45 : PySem.W.nsIn K mainGlobals "law" = some (some (.ref f45)))
    (l45 : K.lookup f45 = some ⟨oc45, od45, .func (PySem.W.fnOf "law" "law" (defArgs s_law) (defBody s_law) (defScope s_law) .none kV45 dc45 pm45 an45 cd45 ct45), sl45⟩)
    (c45 : PySem.W.codeIn K cd45 "law" = true) (k45 : PySem.W.keepIn K (.ref f45) = true)
    (z0 : PySem.W.nsIn K mainGlobals "CLASH" = some (some (.str "clash" t0)))
    (z1 : PySem.W.nsIn K mainGlobals "ENDLESS" = some (some (.str "endless" t1)))
    (z2 : PySem.W.nsIn K mainGlobals "TOP" = some (some (.str "top" t2)))
    (z3 : PySem.W.nsIn K mainGlobals "abs" = some none)
    (z4 : PySem.W.nsIn K mainGlobals "all" = some none)
    (z5 : PySem.W.nsIn K mainGlobals "bool" = some none)
    (z6 : PySem.W.nsIn K mainGlobals "int" = some none)
    (z7 : PySem.W.nsIn K mainGlobals "isinstance" = some none)
    (z8 : PySem.W.nsIn K mainGlobals "len" = some none)
    (z9 : PySem.W.nsIn K mainGlobals "max" = some none)
    (z10 : PySem.W.nsIn K mainGlobals "min" = some none)
    (z11 : PySem.W.nsIn K mainGlobals "range" = some none)
    (z12 : PySem.W.nsIn K mainGlobals "sum" = some none)
    (z13 : PySem.W.nsIn K mainGlobals "tuple" = some none)
    (z14 : PySem.W.nsIn K mainGlobals "zip" = some none) :
    ∃ fd : FuncData, (∀ (s : Shared) (v : Value), BindsTo s fd ⟨[v], []⟩ [("_law_script", v)]) ∧ ∀ base : Heap, K.In base → base.Ns mainGlobals mg → FnOk l.prog w K mg base CX0 12 fa fd ["_law_script"] (spD K 1 M_law) := by
  have e := hfa.symm.trans (PySem.W.mg_of X G a45)
  cases e
  have T : Txt mg := ⟨⟨_, PySem.W.mg_of X G z0⟩, ⟨_, PySem.W.mg_of X G z1⟩, ⟨_, PySem.W.mg_of X G z2⟩, PySem.W.mg_none_of X G z3, PySem.W.mg_none_of X G z4, PySem.W.mg_none_of X G z5, PySem.W.mg_none_of X G z6, PySem.W.mg_none_of X G z7, PySem.W.mg_none_of X G z8, PySem.W.mg_none_of X G z9, PySem.W.mg_none_of X G z10, PySem.W.mg_none_of X G z11, PySem.W.mg_none_of X G z12, PySem.W.mg_none_of X G z13, PySem.W.mg_none_of X G z14⟩
  refine ⟨PySem.W.fnOf "law" "law" (defArgs s_law) (defBody s_law) (defScope s_law) .none kV45 dc45 pm45 an45 cd45 ct45, fun s v => .of_eq rfl, fun base _ _ => ?_⟩
  have F0 := fun_mk (st := s_law_cell_at) l0 c0 k0
  have b0 := binds2 (p0 := "_law_script") (p1 := "_law_k") F0 fun _ _ _ _ _ _ _ _ => rfl
  obtain ⟨F_law_cell_at, h_law_cell_at, sp_law_cell_at⟩ := ok_law_cell_at (P := l.prog) (w := w) (base := base) T F0 (PySem.W.mg_of X G a0) b0 
  have F1 := fun_mk (st := s_law_mixed) l1 c1 k1
  have b1 := binds2 (p0 := "_law_script") (p1 := "_law_k") F1 fun _ _ _ _ _ _ _ _ => rfl
  obtain ⟨F_law_mixed, h_law_mixed, sp_law_mixed⟩ := ok_law_mixed (P := l.prog) (w := w) (base := base) T F1 (PySem.W.mg_of X G a1) b1 h_law_cell_at sp_law_cell_at
  have F2 := fun_mk (st := s_law_size) l2 c2 k2
  have b2 := binds1 (p0 := "_law_number") F2 fun _ _ _ _ _ _ _ => rfl
  obtain ⟨F_law_size, h_law_size, sp_law_size⟩ := ok_law_size (P := l.prog) (w := w) (base := base) T F2 (PySem.W.mg_of X G a2) b2 
  have F3 := fun_mk (st := s_law_drawn) l3 c3 k3
  have b3 := binds2 (p0 := "_law_number") (p1 := "_law_k") F3 fun _ _ _ _ _ _ _ _ => rfl
  obtain ⟨F_law_drawn, h_law_drawn, sp_law_drawn⟩ := ok_law_drawn (P := l.prog) (w := w) (base := base) T F3 (PySem.W.mg_of X G a3) b3 
  have F4 := fun_mk (st := s_law_signed) l4 c4 k4
  have b4 := binds2 (p0 := "_law_number") (p1 := "_law_size_here") F4 fun _ _ _ _ _ _ _ _ => rfl
  obtain ⟨F_law_signed, h_law_signed, sp_law_signed⟩ := ok_law_signed (P := l.prog) (w := w) (base := base) T F4 (PySem.W.mg_of X G a4) b4 
  have F5 := fun_mk (st := s_law_row) l5 c5 k5
  have b5 := binds3 (p0 := "_law_number") (p1 := "_law_wide") (p2 := "_law_size_here") F5 fun _ _ _ _ _ _ _ _ _ => rfl
  obtain ⟨F_law_row, h_law_row, sp_law_row⟩ := ok_law_row (P := l.prog) (w := w) (base := base) T F5 (PySem.W.mg_of X G a5) b5 h_law_signed sp_law_signed h_law_drawn sp_law_drawn
  have F6 := fun_mk (st := s_law_yard) l6 c6 k6
  have b6 := binds3 (p0 := "_law_number") (p1 := "_law_wide") (p2 := "_law_most") F6 fun _ _ _ _ _ _ _ _ _ => rfl
  obtain ⟨F_law_yard, h_law_yard, sp_law_yard⟩ := ok_law_yard (P := l.prog) (w := w) (base := base) T F6 (PySem.W.mg_of X G a6) b6 h_law_size sp_law_size h_law_drawn sp_law_drawn h_law_row sp_law_row h_law_signed sp_law_signed
  have F7 := fun_mk (st := s_product) l7 c7 k7
  have b7 := binds2 (p0 := "one") (p1 := "other") F7 fun _ _ _ _ _ _ _ _ => rfl
  obtain ⟨F_product, h_product, sp_product⟩ := ok_product (P := l.prog) (w := w) (base := base) T F7 (PySem.W.mg_of X G a7) b7 
  have F8 := fun_mk (st := s_weighted_limit) l8 c8 k8
  have b8 := binds2 (p0 := "bounds") (p1 := "weights") F8 fun _ _ _ _ _ _ _ _ => rfl
  obtain ⟨F_weighted_limit, h_weighted_limit, sp_weighted_limit⟩ := ok_weighted_limit (P := l.prog) (w := w) (base := base) T F8 (PySem.W.mg_of X G a8) b8 h_product sp_product
  have F9 := fun_mk (st := s_first_clash) l9 c9 k9
  have b9 := binds2 (p0 := "bounds") (p1 := "weightings") F9 fun _ _ _ _ _ _ _ _ => rfl
  obtain ⟨F_first_clash, h_first_clash, sp_first_clash⟩ := ok_first_clash (P := l.prog) (w := w) (base := base) T F9 (PySem.W.mg_of X G a9) b9 h_weighted_limit sp_weighted_limit
  have F10 := fun_mk (st := s_single_weights) l10 c10 k10
  have b10 := binds2 (p0 := "many") (p1 := "chosen") F10 fun _ _ _ _ _ _ _ _ => rfl
  obtain ⟨F_single_weights, h_single_weights, sp_single_weights⟩ := ok_single_weights (P := l.prog) (w := w) (base := base) T F10 (PySem.W.mg_of X G a10) b10 
  have F11 := fun_mk (st := s_all_single_weights) l11 c11 k11
  have b11 := binds1 (p0 := "many") F11 fun _ _ _ _ _ _ _ => rfl
  obtain ⟨F_all_single_weights, h_all_single_weights, sp_all_single_weights⟩ := ok_all_single_weights (P := l.prog) (w := w) (base := base) T F11 (PySem.W.mg_of X G a11) b11 h_single_weights sp_single_weights
  have F12 := fun_mk (st := s_used_by_either) l12 c12 k12
  have b12 := binds2 (p0 := "one") (p1 := "other") F12 fun _ _ _ _ _ _ _ _ => rfl
  obtain ⟨F_used_by_either, h_used_by_either, sp_used_by_either⟩ := ok_used_by_either (P := l.prog) (w := w) (base := base) T F12 (PySem.W.mg_of X G a12) b12 
  have F13 := fun_mk (st := s_common_divisor) l13 c13 k13
  have b13 := binds1 (p0 := "numbers") F13 fun _ _ _ _ _ _ _ => rfl
  obtain ⟨F_common_divisor, h_common_divisor, sp_common_divisor⟩ := ok_common_divisor (P := l.prog) (w := w) (base := base) T F13 (PySem.W.mg_of X G a13) b13 
  have F14 := fun_mk (st := s_shortened) l14 c14 k14
  have b14 := binds1 (p0 := "numbers") F14 fun _ _ _ _ _ _ _ => rfl
  obtain ⟨F_shortened, h_shortened, sp_shortened⟩ := ok_shortened (P := l.prog) (w := w) (base := base) T F14 (PySem.W.mg_of X G a14) b14 h_common_divisor sp_common_divisor
  have F15 := fun_mk (st := s_cancelling_sum) l15 c15 k15
  have b15 := binds3 (p0 := "rising") (p1 := "falling") (p2 := "column") F15 fun _ _ _ _ _ _ _ _ _ => rfl
  obtain ⟨F_cancelling_sum, h_cancelling_sum, sp_cancelling_sum⟩ := ok_cancelling_sum (P := l.prog) (w := w) (base := base) T F15 (PySem.W.mg_of X G a15) b15 h_product sp_product h_shortened sp_shortened
  have F16 := fun_mk (st := s_cancelled) l16 c16 k16
  have b16 := binds3 (p0 := "weightings") (p1 := "column") (p2 := "most") F16 fun _ _ _ _ _ _ _ _ _ => rfl
  obtain ⟨F_cancelled, h_cancelled, sp_cancelled⟩ := ok_cancelled (P := l.prog) (w := w) (base := base) T F16 (PySem.W.mg_of X G a16) b16 h_product sp_product h_used_by_either sp_used_by_either h_cancelling_sum sp_cancelling_sum
  have F17 := fun_mk (st := s_numbers_at) l17 c17 k17
  have b17 := binds2 (p0 := "bounds") (p1 := "place") F17 fun _ _ _ _ _ _ _ _ => rfl
  obtain ⟨F_numbers_at, h_numbers_at, sp_numbers_at⟩ := ok_numbers_at (P := l.prog) (w := w) (base := base) T F17 (PySem.W.mg_of X G a17) b17 
  have F18 := fun_mk (st := s_cancelling_levels) l18 c18 k18
  have b18 := binds2 (p0 := "bounds") (p1 := "wide") F18 fun _ _ _ _ _ _ _ _ => rfl
  obtain ⟨F_cancelling_levels, h_cancelling_levels, sp_cancelling_levels⟩ := ok_cancelling_levels (P := l.prog) (w := w) (base := base) T F18 (PySem.W.mg_of X G a18) b18 h_all_single_weights sp_all_single_weights h_cancelled sp_cancelled h_numbers_at sp_numbers_at
  have F19 := fun_mk (st := s_clash) l19 c19 k19
  have b19 := binds2 (p0 := "yard") (p1 := "wide") F19 fun _ _ _ _ _ _ _ _ => rfl
  obtain ⟨F_clash, h_clash, sp_clash⟩ := ok_clash (P := l.prog) (w := w) (base := base) T F19 (PySem.W.mg_of X G a19) b19 h_first_clash sp_first_clash h_cancelling_levels sp_cancelling_levels
  have F20 := fun_mk (st := s_turned) l20 c20 k20
  have b20 := binds1 (p0 := "row") F20 fun _ _ _ _ _ _ _ => rfl
  obtain ⟨F_turned, h_turned, sp_turned⟩ := ok_turned (P := l.prog) (w := w) (base := base) T F20 (PySem.W.mg_of X G a20) b20 
  have F21 := fun_mk (st := s_ceilings) l21 c21 k21
  have b21 := binds3 (p0 := "yard") (p1 := "wide") (p2 := "aim") F21 fun _ _ _ _ _ _ _ _ _ => rfl
  obtain ⟨F_ceilings, h_ceilings, sp_ceilings⟩ := ok_ceilings (P := l.prog) (w := w) (base := base) T F21 (PySem.W.mg_of X G a21) b21 h_turned sp_turned h_cancelling_levels sp_cancelling_levels
  have F22 := fun_mk (st := s_weighted) l22 c22 k22
  have b22 := binds3 (p0 := "bounds") (p1 := "weights") (p2 := "wide") F22 fun _ _ _ _ _ _ _ _ _ => rfl
  obtain ⟨F_weighted, h_weighted, sp_weighted⟩ := ok_weighted (P := l.prog) (w := w) (base := base) T F22 (PySem.W.mg_of X G a22) b22 h_product sp_product h_numbers_at sp_numbers_at h_weighted_limit sp_weighted_limit
  have F23 := fun_mk (st := s_raised_to_edge) l23 c23 k23
  have b23 := binds3 (p0 := "bound") (p1 := "wide") (p2 := "point") F23 fun _ _ _ _ _ _ _ _ _ => rfl
  obtain ⟨F_raised_to_edge, h_raised_to_edge, sp_raised_to_edge⟩ := ok_raised_to_edge (P := l.prog) (w := w) (base := base) T F23 (PySem.W.mg_of X G a23) b23 h_product sp_product h_shortened sp_shortened
  have F24 := fun_mk (st := s_keeps) l24 c24 k24
  have b24 := binds2 (p0 := "bound") (p1 := "point") F24 fun _ _ _ _ _ _ _ _ => rfl
  obtain ⟨F_keeps, h_keeps, sp_keeps⟩ := ok_keeps (P := l.prog) (w := w) (base := base) T F24 (PySem.W.mg_of X G a24) b24 h_product sp_product
  have F25 := fun_mk (st := s_kept) l25 c25 k25
  have b25 := binds2 (p0 := "bounds") (p1 := "point") F25 fun _ _ _ _ _ _ _ _ => rfl
  obtain ⟨F_kept, h_kept, sp_kept⟩ := ok_kept (P := l.prog) (w := w) (base := base) T F25 (PySem.W.mg_of X G a25) b25 h_keeps sp_keeps
  have F26 := fun_mk (st := s_raised) l26 c26 k26
  have b26 := binds3 (p0 := "yard") (p1 := "wide") (p2 := "point") F26 fun _ _ _ _ _ _ _ _ _ => rfl
  obtain ⟨F_raised, h_raised, sp_raised⟩ := ok_raised (P := l.prog) (w := w) (base := base) T F26 (PySem.W.mg_of X G a26) b26 h_raised_to_edge sp_raised_to_edge h_kept sp_kept
  have F27 := fun_mk (st := s_point_in) l27 c27 k27
  have b27 := binds2 (p0 := "yard") (p1 := "wide") F27 fun _ _ _ _ _ _ _ _ => rfl
  obtain ⟨F_point_in, h_point_in, sp_point_in⟩ := ok_point_in (P := l.prog) (w := w) (base := base) T F27 (PySem.W.mg_of X G a27) b27 h_cancelling_levels sp_cancelling_levels h_first_clash sp_first_clash h_weighted sp_weighted h_raised sp_raised
  have F28 := fun_mk (st := s_point_at_least) l28 c28 k28
  have b28 := binds4 (p0 := "yard") (p1 := "wide") (p2 := "row") (p3 := "limit") F28 fun _ _ _ _ _ _ _ _ _ _ => rfl
  obtain ⟨F_point_at_least, h_point_at_least, sp_point_at_least⟩ := ok_point_at_least (P := l.prog) (w := w) (base := base) T F28 (PySem.W.mg_of X G a28) b28 h_point_in sp_point_in h_turned sp_turned
  have F29 := fun_mk (st := s_rising_way) l29 c29 k29
  have b29 := binds3 (p0 := "yard") (p1 := "wide") (p2 := "aim") F29 fun _ _ _ _ _ _ _ _ _ => rfl
  obtain ⟨F_rising_way, h_rising_way, sp_rising_way⟩ := ok_rising_way (P := l.prog) (w := w) (base := base) T F29 (PySem.W.mg_of X G a29) b29 h_point_at_least sp_point_at_least
  have F30 := fun_mk (st := s_lowest_ceiling) l30 c30 k30
  have b30 := binds2 (p0 := "yard") (p1 := "found") F30 fun _ _ _ _ _ _ _ _ => rfl
  obtain ⟨F_lowest_ceiling, h_lowest_ceiling, sp_lowest_ceiling⟩ := ok_lowest_ceiling (P := l.prog) (w := w) (base := base) T F30 (PySem.W.mg_of X G a30) b30 h_weighted_limit sp_weighted_limit
  have F31 := fun_mk (st := s_top) l31 c31 k31
  have b31 := binds3 (p0 := "yard") (p1 := "wide") (p2 := "aim") F31 fun _ _ _ _ _ _ _ _ _ => rfl
  obtain ⟨F_top, h_top, sp_top⟩ := ok_top (P := l.prog) (w := w) (base := base) T F31 (PySem.W.mg_of X G a31) b31 h_clash sp_clash h_ceilings sp_ceilings h_rising_way sp_rising_way h_point_in sp_point_in h_lowest_ceiling sp_lowest_ceiling h_point_at_least sp_point_at_least h_weighted_limit sp_weighted_limit
  have F32 := fun_mk (st := s_law_product) l32 c32 k32
  have b32 := binds2 (p0 := "_law_one") (p1 := "_law_other") F32 fun _ _ _ _ _ _ _ _ => rfl
  obtain ⟨F_law_product, h_law_product, sp_law_product⟩ := ok_law_product (P := l.prog) (w := w) (base := base) T F32 (PySem.W.mg_of X G a32) b32 
  have F33 := fun_mk (st := s_carried_beyond) l33 c33 k33
  have b33 := binds3 (p0 := "bound") (p1 := "point") (p2 := "way") F33 fun _ _ _ _ _ _ _ _ _ => rfl
  obtain ⟨F_carried_beyond, h_carried_beyond, sp_carried_beyond⟩ := ok_carried_beyond (P := l.prog) (w := w) (base := base) T F33 (PySem.W.mg_of X G a33) b33 h_product sp_product
  have F34 := fun_mk (st := s_against) l34 c34 k34
  have b34 := binds3 (p0 := "yard") (p1 := "wide") (p2 := "bound") F34 fun _ _ _ _ _ _ _ _ _ => rfl
  obtain ⟨F_against, h_against, sp_against⟩ := ok_against (P := l.prog) (w := w) (base := base) T F34 (PySem.W.mg_of X G a34) b34 h_top sp_top h_carried_beyond sp_carried_beyond h_keeps sp_keeps
  have F35 := fun_mk (st := s_follows) l35 c35 k35
  have b35 := binds3 (p0 := "yard") (p1 := "wide") (p2 := "bound") F35 fun _ _ _ _ _ _ _ _ _ => rfl
  obtain ⟨F_follows, h_follows, sp_follows⟩ := ok_follows (P := l.prog) (w := w) (base := base) T F35 (PySem.W.mg_of X G a35) b35 h_against sp_against
  have F36 := fun_mk (st := s_reasons) l36 c36 k36
  have b36 := binds3 (p0 := "yard") (p1 := "wide") (p2 := "bound") F36 fun _ _ _ _ _ _ _ _ _ => rfl
  obtain ⟨F_reasons, h_reasons, sp_reasons⟩ := ok_reasons (P := l.prog) (w := w) (base := base) T F36 (PySem.W.mg_of X G a36) b36 h_top sp_top h_weighted_limit sp_weighted_limit
  have F37 := fun_mk (st := s_law_keeps) l37 c37 k37
  have b37 := binds2 (p0 := "_law_bounds") (p1 := "_law_point") F37 fun _ _ _ _ _ _ _ _ => rfl
  obtain ⟨F_law_keeps, h_law_keeps, sp_law_keeps⟩ := ok_law_keeps (P := l.prog) (w := w) (base := base) T F37 (PySem.W.mg_of X G a37) b37 h_law_product sp_law_product
  have F38 := fun_mk (st := s_law_whole) l38 c38 k38
  have b38 := binds1 (p0 := "_law_thing") F38 fun _ _ _ _ _ _ _ => rfl
  have h_law_whole := ok_law_whole (P := l.prog) (w := w) (base := base) T F38 (PySem.W.mg_of X G a38) b38 
  have F39 := fun_mk (st := s_law_is_row) l39 c39 k39
  have b39 := binds2 (p0 := "_law_thing") (p1 := "_law_wide") F39 fun _ _ _ _ _ _ _ _ => rfl
  have h_law_is_row := ok_law_is_row (P := l.prog) (w := w) (base := base) T F39 (PySem.W.mg_of X G a39) b39 h_law_whole
  have F40 := fun_mk (st := s_law_is_point) l40 c40 k40
  have b40 := binds2 (p0 := "_law_thing") (p1 := "_law_wide") F40 fun _ _ _ _ _ _ _ _ => rfl
  have h_law_is_point := ok_law_is_point (P := l.prog) (w := w) (base := base) T F40 (PySem.W.mg_of X G a40) b40 h_law_is_row h_law_whole
  have F41 := fun_mk (st := s_law_lies_in) l41 c41 k41
  have b41 := binds3 (p0 := "_law_yard_here") (p1 := "_law_wide") (p2 := "_law_point") F41 fun _ _ _ _ _ _ _ _ _ => rfl
  obtain ⟨F_law_lies_in, h_law_lies_in, sp_law_lies_in⟩ := ok_law_lies_in (P := l.prog) (w := w) (base := base) T F41 (PySem.W.mg_of X G a41) b41 h_law_keeps sp_law_keeps h_law_is_point
  have F42 := fun_mk (st := s_law_are_weights) l42 c42 k42
  have b42 := binds2 (p0 := "_law_thing") (p1 := "_law_many") F42 fun _ _ _ _ _ _ _ _ => rfl
  obtain ⟨F_law_are_weights, h_law_are_weights, sp_law_are_weights⟩ := ok_law_are_weights (P := l.prog) (w := w) (base := base) T F42 (PySem.W.mg_of X G a42) b42 h_law_whole
  have F43 := fun_mk (st := s_law_weighed) l43 c43 k43
  have b43 := binds3 (p0 := "_law_bounds") (p1 := "_law_weights") (p2 := "_law_wide") F43 fun _ _ _ _ _ _ _ _ _ => rfl
  obtain ⟨F_law_weighed, h_law_weighed, sp_law_weighed⟩ := ok_law_weighed (P := l.prog) (w := w) (base := base) T F43 (PySem.W.mg_of X G a43) b43 
  have F44 := fun_mk (st := s_law_reason) l44 c44 k44
  have b44 := binds4 (p0 := "_law_yard_here") (p1 := "_law_wide") (p2 := "_law_bound") (p3 := "_law_found") F44 fun _ _ _ _ _ _ _ _ _ _ => rfl
  obtain ⟨F_law_reason, h_law_reason, sp_law_reason⟩ := ok_law_reason (P := l.prog) (w := w) (base := base) T F44 (PySem.W.mg_of X G a44) b44 h_law_are_weights sp_law_are_weights h_law_whole h_law_weighed sp_law_weighed
  have F45 := fun_mk (st := s_law) l45 c45 k45
  exact ok_law T F45 h_law_mixed sp_law_mixed h_law_yard sp_law_yard h_law_row sp_law_row h_law_signed sp_law_signed h_law_size sp_law_size h_top sp_top h_law_product sp_law_product h_follows sp_follows h_point_in sp_point_in h_reasons sp_reasons h_against sp_against h_law_keeps sp_law_keeps h_law_lies_in sp_law_lies_in h_law_reason sp_law_reason
theorem walk {l : PySem.W.OpenLaw} {q : Program} {loose : List Str} {XP : (Str → Option Value) → Heap → Prop} {YP : World → Heap → Prop} {d : DefRec} {K : Params → PySem.W.Frag} (hn : l.most = some 63) (hdf : d.params.defaults = [])
    (hY : ∀ (w : World) (h : Heap), YP w h → (K w.params).In h)
    (F : ∀ (w : World) (mg : Str → Option Value) (fa : Addr) (h : Heap), (K w.params).In h → h.Ns mainGlobals mg → mg d.name = some (.ref fa) →
      ∃ fd : FuncData, (∀ (s : Shared) (u : Value), BindsTo s fd ⟨[u], []⟩ [("_law_script", u)]) ∧ ∀ base : Heap, (K w.params).In base → base.Ns mainGlobals mg → FnOk l.prog w (K w.params) mg base CX0 12 fa fd ["_law_script"] (spD (K w.params) 1 M_law)) :
    PySem.W.WalkO q loose XP YP l.row.toRowW d [] (fun f vs => PySem.call f vs) :=
  L2.walk_of (n := 63) (k := 12) (x := "_law_script") (CX := fun _ => CX0) (sp := fun w => spD (K w.params) 1 M_law) hn (by decide) hdf ⟨rfl, by decide, by decide⟩ hY F (fun _ _ a ns hl _ hS => spD_law hS M_law_true) fun _ _ _ _ _ z => z
end KTk31
set_option bootstrap.genMatcherCode true
open PySem PySem.W PyProof.Rows
set_option maxRecDepth 100000 in
set_option maxHeartbeats 0 in
theorem PySem.Challenge.cw_scaleyard_k31_whole_what_follows_holds : PySem.Challenge.rw_scaleyard_k31_whole_what_follows.Holds := by
  w_on; o_law; k_head; (case hw => w_witness2)
  k_fill
  refine KTk31.walk (l := PySem.Challenge.rw_scaleyard_k31_whole_what_follows) rfl rfl (fun w h Y => PySem.W.kIn_of Y) ?F
  case F =>
    intro w mg fa h KX G hmg
    refine' KTk31.all_mk KX G hmg ?a0 ?l0 ?c0 ?k0 ?a1 ?l1 ?c1 ?k1 ?a2 ?l2 ?c2 ?k2 ?a3 ?l3 ?c3 ?k3 ?a4 ?l4 ?c4 ?k4 ?a5 ?l5 ?c5 ?k5 ?a6 ?l6 ?c6 ?k6 ?a7 ?l7 ?c7 ?k7 ?a8 ?l8 ?c8 ?k8 ?a9 ?l9 ?c9 ?k9 ?a10 ?l10 ?c10 ?k10 ?a11 ?l11 ?c11 ?k11 ?a12 ?l12 ?c12 ?k12 ?a13 ?l13 ?c13 ?k13 ?a14 ?l14 ?c14 ?k14 ?a15 ?l15 ?c15 ?k15 ?a16 ?l16 ?c16 ?k16 ?a17 ?l17 ?c17 ?k17 ?a18 ?l18 ?c18 ?k18 ?a19 ?l19 ?c19 ?k19 ?a20 ?l20 ?c20 ?k20 ?a21 ?l21 ?c21 ?k21 ?a22 ?l22 ?c22 ?k22 ?a23 ?l23 ?c23 ?k23 ?a24 ?l24 ?c24 ?k24 ?a25 ?l25 ?c25 ?k25 ?a26 ?l26 ?c26 ?k26 ?a27 ?l27 ?c27 ?k27 ?a28 ?l28 ?c28 ?k28 ?a29 ?l29 ?c29 ?k29 ?a30 ?l30 ?c30 ?k30 ?a31 ?l31 ?c31 ?k31 ?a32 ?l32 ?c32 ?k32 ?a33 ?l33 ?c33 ?k33 ?a34 ?l34 ?c34 ?k34 ?a35 ?l35 ?c35 ?k35 ?a36 ?l36 ?c36 ?k36 ?a37 ?l37 ?c37 ?k37 ?a38 ?l38 ?c38 ?k38 ?a39 ?l39 ?c39 ?k39 ?a40 ?l40 ?c40 ?k40 ?a41 ?l41 ?c41 ?k41 ?a42 ?l42 ?c42 ?k42 ?a43 ?l43 ?c43 ?k43 ?a44 ?l44 ?c44 ?k44 ?a45 ?l45 ?c45 ?k45 ?z0 ?z1 ?z2 ?z3 ?z4 ?z5 ?z6 ?z7 ?z8 ?z9 ?z10 ?z11 ?z12 ?z13 ?z14
    (case a0 => k_is)
    (case l0 => k_is)
    (case c0 => k_is)
    (case k0 => k_is)
    (case a1 => k_is)
    (case l1 => k_is)
    (case c1 => k_is)
    (case k1 => k_is)
    (case a2 => k_is)
    (case l2 => k_is)
    (case c2 => k_is)
    (case k2 => k_is)
    (case a3 => k_is)
    (case l3 => k_is)
    (case c3 => k_is)
    (case k3 => k_is)
    (case a4 => k_is)
    (case l4 => k_is)
    (case c4 => k_is)
    (case k4 => k_is)
    (case a5 => k_is)
    (case l5 => k_is)
    (case c5 => k_is)
    (case k5 => k_is)
    (case a6 => k_is)
    (case l6 => k_is)
    (case c6 => k_is)
    (case k6 => k_is)
    (case a7 => k_is)
    (case l7 => k_is)
    (case c7 => k_is)
    (case k7 => k_is)
    (case a8 => k_is)
    (case l8 => k_is)
    (case c8 => k_is)
    (case k8 => k_is)
    (case a9 => k_is)
    (case l9 => k_is)
    (case c9 => k_is)
    (case k9 => k_is)
    (case a10 => k_is)
    (case l10 => k_is)
    (case c10 => k_is)
    (case k10 => k_is)
    (case a11 => k_is)
    (case l11 => k_is)
    (case c11 => k_is)
    (case k11 => k_is)
    (case a12 => k_is)
    (case l12 => k_is)
    (case c12 => k_is)
    (case k12 => k_is)
    (case a13 => k_is)
    (case l13 => k_is)
    (case c13 => k_is)
    (case k13 => k_is)
    (case a14 => k_is)
    (case l14 => k_is)
    (case c14 => k_is)
    (case k14 => k_is)
    (case a15 => k_is)
    (case l15 => k_is)
    (case c15 => k_is)
    (case k15 => k_is)
    (case a16 => k_is)
    (case l16 => k_is)
    (case c16 => k_is)
    (case k16 => k_is)
    (case a17 => k_is)
    (case l17 => k_is)
    (case c17 => k_is)
    (case k17 => k_is)
    (case a18 => k_is)
    (case l18 => k_is)
    (case c18 => k_is)
    (case k18 => k_is)
    (case a19 => k_is)
    (case l19 => k_is)
    (case c19 => k_is)
    (case k19 => k_is)
    (case a20 => k_is)
    (case l20 => k_is)
    (case c20 => k_is)
    (case k20 => k_is)
    (case a21 => k_is)
    (case l21 => k_is)
    (case c21 => k_is)
    (case k21 => k_is)
    (case a22 => k_is)
    (case l22 => k_is)
    (case c22 => k_is)
    (case k22 => k_is)
    (case a23 => k_is)
    (case l23 => k_is)
    (case c23 => k_is)
    (case k23 => k_is)
    (case a24 => k_is)
    (case l24 => k_is)
    (case c24 => k_is)
    (case k24 => k_is)
    (case a25 => k_is)
    (case l25 => k_is)
    (case c25 => k_is)
    (case k25 => k_is)
    (case a26 => k_is)
    (case l26 => k_is)
    (case c26 => k_is)
    (case k26 => k_is)
    (case a27 => k_is)
    (case l27 => k_is)
    (case c27 => k_is)
    (case k27 => k_is)
    (case a28 => k_is)
    (case l28 => k_is)
    (case c28 => k_is)
    (case k28 => k_is)
    (case a29 => k_is)
    (case l29 => k_is)
    (case c29 => k_is)
    (case k29 => k_is)
    (case a30 => k_is)
    (case l30 => k_is)
    (case c30 => k_is)
    (case k30 => k_is)
    (case a31 => k_is)
    (case l31 => k_is)
    (case c31 => k_is)
    (case k31 => k_is)
    (case a32 => k_is)
    (case l32 => k_is)
    (case c32 => k_is)
    (case k32 => k_is)
    (case a33 => k_is)
    (case l33 => k_is)
    (case c33 => k_is)
    (case k33 => k_is)
    (case a34 => k_is)
    (case l34 => k_is)
    (case c34 => k_is)
    (case k34 => k_is)
    (case a35 => k_is)
    (case l35 => k_is)
    (case c35 => k_is)
    (case k35 => k_is)
    (case a36 => k_is)
    (case l36 => k_is)
    (case c36 => k_is)
    (case k36 => k_is)
    (case a37 => k_is)
    (case l37 => k_is)
    (case c37 => k_is)
    (case k37 => k_is)
    (case a38 => k_is)
    (case l38 => k_is)
    (case c38 => k_is)
    (case k38 => k_is)
    (case a39 => k_is)
    (case l39 => k_is)
    (case c39 => k_is)
    (case k39 => k_is)
    (case a40 => k_is)
    (case l40 => k_is)
    (case c40 => k_is)
    (case k40 => k_is)
    (case a41 => k_is)
    (case l41 => k_is)
    (case c41 => k_is)
    (case k41 => k_is)
    (case a42 => k_is)
    (case l42 => k_is)
    (case c42 => k_is)
    (case k42 => k_is)
    (case a43 => k_is)
    (case l43 => k_is)
    (case c43 => k_is)
    (case k43 => k_is)
    (case a44 => k_is)
    (case l44 => k_is)
    (case c44 => k_is)
    (case k44 => k_is)
    (case a45 => k_is)
    (case l45 => k_is)
    (case c45 => k_is)
    (case k45 => k_is)
    (case z0 => k_is)
    (case z1 => k_is)
    (case z2 => k_is)
    (case z3 => k_is)
    (case z4 => k_is)
    (case z5 => k_is)
    (case z6 => k_is)
    (case z7 => k_is)
    (case z8 => k_is)
    (case z9 => k_is)
    (case z10 => k_is)
    (case z11 => k_is)
    (case z12 => k_is)
    (case z13 => k_is)
    (case z14 => k_is)

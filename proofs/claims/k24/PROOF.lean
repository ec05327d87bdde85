import PyProof.Rows.All
import Wide.All
import OpenK.AllK
import Wide.FinOn
import Lean
import PyProof.EqAt
import PyProof.EqKinds
import PyProof.TupleCall
import PySem.Challenge.RW_acre_k24_where_and_area
set_option Elab.async false
set_option linter.all false
set_option maxRecDepth 100000
namespace L2
open PySem PySem.Spec PyProof.Rows
abbrev Key := Sum Int Str
def keyIs : Key → Value → Bool
  | .inl k, v => Value.isInt k v
  | .inr x, v => Value.isStrOf x v
def keyH (w : World) : Key → Int
  | .inl k => hashInt k
  | .inr x => hashStr w x
theorem keyIs_shape : ∀ {k : Key} {v : Value}, keyIs k v = true → (∃ i t, k = Sum.inl i ∧ v = Value.int i t) ∨ (∃ x t, k = Sum.inr x ∧ v = Value.str x t)
  | .inl i, v, h => by
    obtain ⟨t, e⟩ := Value.isInt_shape (k := i) (v := v) h
    exact .inl ⟨i, t, rfl, e⟩
  | .inr x, v, h => by
    obtain ⟨t, e⟩ := Value.isStrOf_shape (x := x) (v := v) h
    exact .inr ⟨x, t, rfl, e⟩
theorem key_ll (a b : Int) : decide ((Sum.inl a : Key) = Sum.inl b) = (a == b) := by
  by_cases e : a = b
  · subst e; simp
  · have h : ¬ (Sum.inl a : Key) = Sum.inl b := fun q => e (Sum.inl.inj q)
    rw [decide_eq_false h]
    exact (beq_eq_false_iff_ne.mpr e).symm
theorem key_rr (a b : Str) : decide ((Sum.inr a : Key) = Sum.inr b) = decide (a = b) := by
  by_cases e : a = b
  · subst e; simp
  · have h : ¬ (Sum.inr a : Key) = Sum.inr b := fun q => e (Sum.inr.inj q)
    rw [decide_eq_false h, decide_eq_false e]
theorem key_lr (a : Int) (b : Str) : decide ((Sum.inl a : Key) = Sum.inr b) = false := decide_eq_false (fun q => nomatch q)
theorem key_rl (a : Str) (b : Int) : decide ((Sum.inr a : Key) = Sum.inl b) = false := decide_eq_false (fun q => nomatch q)
def mixKind (prog : Program) (w : World) : PySem.KeyKind prog w Key where
  is := keyIs
  hash := keyH w
  inj := fun v a b ha hb => by
    rcases keyIs_shape ha with ⟨i, t, rfl, rfl⟩ | ⟨x, t, rfl, rfl⟩
    · rcases keyIs_shape hb with ⟨j, u, rfl, e⟩ | ⟨y, u, rfl, e⟩
      · injection e with e1 _; rw [e1]
      · exact nomatch e
    · rcases keyIs_shape hb with ⟨j, u, rfl, e⟩ | ⟨y, u, rfl, e⟩
      · exact nomatch e
      · injection e with e1 _; rw [e1]
  byValue := fun k v h => by
    rcases keyIs_shape h with ⟨i, t, rfl, rfl⟩ | ⟨x, t, rfl, rfl⟩ <;> rfl
  pyHash := fun hv h => by
    rcases keyIs_shape hv with ⟨i, t, rfl, rfl⟩ | ⟨x, t, rfl, rfl⟩
    · exact wpAny_pyHash_int h
    · exact wpAny_pyHash_str h
  eqBool := fun hu hv h => by
    rcases keyIs_shape hu with ⟨i, t, rfl, rfl⟩ | ⟨x, t, rfl, rfl⟩
    · rcases keyIs_shape hv with ⟨j, u, rfl, rfl⟩ | ⟨y, u, rfl, rfl⟩
      · rw [key_ll] at h; exact wpAny_eqBool_int h
      · rw [key_lr] at h; exact SeqAt.EqAt.int_str i t y u _ _ _ _ h
    · rcases keyIs_shape hv with ⟨j, u, rfl, rfl⟩ | ⟨y, u, rfl, rfl⟩
      · rw [key_rl] at h; exact SeqAt.EqAt.str_int x t j u _ _ _ _ h
      · rw [key_rr] at h; exact wpAny_eqBool_str h
  «strs» := fun k x t v h => by
    rcases keyIs_shape h with ⟨i, u, rfl, e⟩ | ⟨y, u, rfl, e⟩
    · exact nomatch e
    · injection e with e1 _
      subst e1
      cases v <;> rfl
end L2
namespace L2
open PySem PySem.Spec PyProof.Rows
inductive V where
  | non | bl (b : Bool) | int (i : Int) | str (x : Str) | byt (b : Array UInt8) | flt (b : UInt64) | ref (a : Addr) | ty (n : String)
  deriving DecidableEq
def RelV : V → Value → Prop
  | .non, u => u = Value.none
  | .bl b, u => u = Value.bool b
  | .int i, u => ∃ t, u = Value.int i t
  | .str x, u => ∃ t, u = Value.str x t
  | .byt b, u => ∃ t, u = Value.bytes b t
  | .flt b, u => ∃ t, u = Value.float b t
  | .ref a, u => u = Value.ref a
  | .ty n, u => u = Value.type n
abbrev Vals : List V → List Value → Prop := Paired RelV
theorem Vals.length {xs : List V} {us : List Value} (r : Vals xs us) : xs.length = us.length := Paired.length r
theorem Vals.get : ∀ {xs : List V} {us : List Value} {i : Nat} {x : V}, Vals xs us → xs[i]? = some x → ∃ u, us[i]? = some u ∧ RelV x u
  | _, _, _, _, .nil, e => by simp at e
  | _, _, 0, _, .cons r _, e => by simp at e; subst e; exact ⟨_, rfl, r⟩
  | _, _, i + 1, x, .cons _ t, e => by
    obtain ⟨u, h1, h2⟩ := Vals.get (i := i) (x := x) t (by simpa using e)
    exact ⟨u, by simpa using h1, h2⟩
theorem Vals.set {x : V} {u : Value} (r : RelV x u) : ∀ {xs : List V} {us : List Value} (i : Nat), Vals xs us → Vals (xs.set i x) (us.set i u)
  | _, _, _, .nil => .nil
  | _, _, 0, .cons _ t => .cons r t
  | _, _, i + 1, .cons q t => .cons q (Vals.set r i t)
theorem Vals.append : ∀ {xs ys : List V} {us ws : List Value}, Vals xs us → Vals ys ws → Vals (xs ++ ys) (us ++ ws)
  | _, _, _, _, .nil, s => s
  | _, _, _, _, .cons r t, s => .cons r (Vals.append t s)
theorem Vals.take : ∀ {xs : List V} {us : List Value} (n : Nat), Vals xs us → Vals (xs.take n) (us.take n)
  | _, _, 0, _ => .nil
  | _, _, _ + 1, .nil => .nil
  | _, _, n + 1, .cons r t => .cons r (Vals.take n t)
theorem Vals.drop : ∀ {xs : List V} {us : List Value} (n : Nat), Vals xs us → Vals (xs.drop n) (us.drop n)
  | _, _, 0, r => r
  | _, _, _ + 1, .nil => .nil
  | _, _, n + 1, .cons _ t => Vals.drop n t
def RelO : Option V → Option Value → Prop
  | some v, some u => RelV v u
  | none, none => True
  | _, _ => False
def KV {κ : Type} : List (κ × V) → List (κ × Value) → Prop := Paired fun (p : κ × V) (q : κ × Value) => p.1 = q.1 ∧ RelV p.2 q.2
def kV : Key → V
  | .inl i => .int i
  | .inr x => .str x
inductive HO where
  /-- a list -/
  | lst (xs : List V)
  /-- a tuple (never changes) -/
  | tup (xs : List V)
  /-- a dict whose keys are ints and texts; one whose keys are tuples of ints and texts (the empty one is both) -/
  | dK (kvs : List (Key × V)) | dT (kvs : List (List Key × V))
  /-- a set of ints: its members, its size -/
  | set (S : Int → Bool) (n : Nat)
  /-- an instance of the class at C, its dict at dx, its attributes -/
  | ins (C dx : Addr) (fs : List (Str × V))
  /-- the dict of the instance at x -/
  | own (x : Addr)
  /-- the dict of an exception -/
  | xd (fs : List (Str × V))
  /-- a bound method, f of x -/
  | met (f x : Addr)
  /-- a range object lo, lo + 1, .. below hi -/
  | rng (lo hi : Int)
  /-- a thing that is known to the object (the script; a dict while a loop walks it): read, never written while it is so -/
  | frz (o : Obj) (u : HO)
  /-- a code object's table -/
  | tbl (ps : Array Value)
  /-- any other thing, by what is true of its one object (a def of one's own: SetO a S n := HO.ext fun h => ..) -/
  | ext (φ : Heap → Prop)
abbrev Hp := Addr → Option HO
def upd (H : Hp) (a : Addr) (o : HO) : Hp := fun b => if b = a then some o else H b
theorem upd_same {H : Hp} {a : Addr} {o : HO} : upd H a o a = some o := by unfold upd; rw [if_pos rfl]
theorem upd_ne {H : Hp} {a b : Addr} {o : HO} (h : b ≠ a) : upd H a o b = H b := by unfold upd; rw [if_neg h]
theorem upd_upd {H : Hp} {a : Addr} {o u : HO} : upd (upd H a o) a u = upd H a u := by
  funext b; unfold upd; split <;> rfl
theorem ne_of {H : Hp} {a b : Addr} {o u : HO} (h : H a = some o) (h' : H b = some u) (d : o ≠ u) : a ≠ b := by
  intro e; subst e; rw [h] at h'; exact d (Option.some.inj h')
theorem ne_of_none {H : Hp} {a b : Addr} {o : HO} (h : H a = some o) (h' : H b = none) : a ≠ b := by
  intro e; subst e; rw [h] at h'; cases h'
section
variable (P : Program) (w : World)
def ObjOk (H : Hp) (h : Heap) (a : Addr) : HO → Prop
  | .lst xs => xs.length ≤ sizeLine ∧ ∃ (its : List Value) (n : Nat), Vals xs its ∧ h.get? a = some { cls := .type "list", data := .seq its.toArray n }
  | .tup xs => xs.length ≤ sizeLine ∧ ∃ its : List Value, Vals xs its ∧ IsTup h a its.toArray
  | .dK kvs => kvs.length ≤ sizeLine ∧ (a == sysModules) = false ∧ ∃ vs, KV kvs vs ∧ h.DictOf (mixKind P w) a vs
  | .dT kvs => kvs.length ≤ sizeLine ∧ (a == sysModules) = false ∧ ∃ xs : List (List Key × Addr × Value),
      Paired (fun (p : List Key × V) (q : List Key × Addr × Value) => p.1 = q.1 ∧ H q.2.1 = some (.tup (p.1.map kV)) ∧ RelV p.2 q.2.2) kvs xs ∧
      ∃ o es ep, h.get? a = some o ∧ o.ExactDict ∧ o.data = .dict es ep ∧ es.toList = xs.map (entryOfKey (tupleKind (mixKind P w))) ∧ (xs.map (·.1)).Nodup
  | .set S n => h.SetOf (intKind P w) a S n
  | .ins C dx fs => H dx = some (.own a) ∧ fs.length ≤ 1000 ∧ dx ≠ a ∧ h.get? a = some (PySem.W.instObj C dx) ∧
      ∃ mA, h.Ns1 dx mA ∧ (∀ f, RelO (fs.lookup f) (mA f)) ∧ PySem.Within mA (fs.map (·.1))
  | .own _ => ∃ o, h.get? a = some o
  | .xd fs => ∃ mA, h.Ns1 a mA ∧ ∀ f, RelO (fs.lookup f) (mA f)
  | .rng lo hi => ∃ t u v, h.get? a = some { cls := .type "range", data := .fields #[.int lo t, .int hi u, .int 1 v] }
  | .frz o u => h.get? a = some o ∧ ObjOk H h a u
  | .tbl ps => h.get? a = some { cls := .none, data := .fields ps }
  | .met f x => h.get? a = some (PySem.W.methodObj (.ref f) (.ref x))
  | .ext φ => φ h ∧ (∃ o, h.get? a = some o) ∧ ∀ h1 h2 : Heap, φ h1 → (∀ o, h1.get? a = some o → h2.get? a = some o) → φ h2
def HOk (H : Hp) (h : Heap) : Prop := ∀ a o, H a = some o → ObjOk P w H h a o
end
section
variable {P : Program} {w : World} {H H' : Hp} {h h' : Heap} {a : Addr} {o : HO}
theorem ObjOk.lt (x : ObjOk P w H h a o) : a < h.objs.size := by
  cases o with
  | lst xs => obtain ⟨_, _, _, _, e⟩ := x; exact Heap.lt_size e
  | tup xs => obtain ⟨_, _, _, p⟩ := x; exact p.lt
  | dK kvs => obtain ⟨_, _, _, _, o, _, _, e, _⟩ := x; exact Heap.lt_size e
  | dT kvs => obtain ⟨_, _, _, _, o, _, _, e, _⟩ := x; exact Heap.lt_size e
  | set S n => obtain ⟨o, _, _, _, e, _⟩ := x; exact Heap.lt_size e
  | ins C dx fs => obtain ⟨_, _, _, e, _⟩ := x; exact Heap.lt_size e
  | own y => obtain ⟨_, e⟩ := x; exact Heap.lt_size e
  | xd fs => obtain ⟨_, ⟨_, _, _, e, _⟩, _⟩ := x; exact Heap.lt_size e
  | rng lo hi => obtain ⟨_, _, _, e⟩ := x; exact Heap.lt_size e
  | frz ob u => obtain ⟨e, _⟩ := x; exact Heap.lt_size e
  | tbl ps => exact Heap.lt_size (show h.get? a = some _ from x)
  | met f y => exact Heap.lt_size (show h.get? a = some _ from x)
  | ext φ => obtain ⟨_, ⟨_, e⟩, _⟩ := x; exact Heap.lt_size e
theorem Paired.mapP {α β : Type} {F G : α → β → Prop} : ∀ {l₁ : List α} {l₂ : List β}, Paired F l₁ l₂ → (∀ a b, F a b → G a b) → Paired G l₁ l₂
  | _, _, .nil, _ => .nil
  | _, _, .cons r t, f => .cons (f _ _ r) (Paired.mapP t f)
theorem ObjOk.stay (x : ObjOk P w H h a o) (k : ∀ b u, (b = a ∨ H b = some (.own a)) → h.get? b = some u → h'.get? b = some u)
    (ho : ∀ b, H b = some (.own a) → H' b = some (.own a)) (ht : ∀ b xs, H b = some (.tup xs) → H' b = some (.tup xs)) : ObjOk P w H' h' a o := by
  induction o with
  | lst xs => obtain ⟨z, its, n, r, e⟩ := x; exact ⟨z, its, n, r, k _ _ (.inl rfl) e⟩
  | tup xs => obtain ⟨z, its, r, ob, e, c⟩ := x; exact ⟨z, its, r, ob, k _ _ (.inl rfl) e, c⟩
  | dK kvs => obtain ⟨z, y, vs, r, ob, es, ep, e, c⟩ := x; exact ⟨z, y, vs, r, ob, es, ep, k _ _ (.inl rfl) e, c⟩
  | dT kvs =>
    obtain ⟨z, y, xs, r, ob, es, ep, e, c⟩ := x
    exact ⟨z, y, xs, Paired.mapP r fun p q z => ⟨z.1, ht _ _ z.2.1, z.2.2⟩, ob, es, ep, k _ _ (.inl rfl) e, c⟩
  | set S n => obtain ⟨ob, es, ep, t, e, c⟩ := x; exact ⟨ob, es, ep, t, k _ _ (.inl rfl) e, c⟩
  | ins C dx fs =>
    obtain ⟨d, z, ne, e, mA, ⟨od, es, ep, e2, c⟩, r⟩ := x
    exact ⟨ho _ d, z, ne, k _ _ (.inl rfl) e, mA, ⟨od, es, ep, k _ _ (.inr d) e2, c⟩, r⟩
  | own y => obtain ⟨ob, e⟩ := x; exact ⟨ob, k _ _ (.inl rfl) e⟩
  | xd fs => obtain ⟨mA, ⟨od, es, ep, e, c⟩, r⟩ := x; exact ⟨mA, ⟨od, es, ep, k _ _ (.inl rfl) e, c⟩, r⟩
  | rng lo hi => obtain ⟨t, u, v, e⟩ := x; exact ⟨t, u, v, k _ _ (.inl rfl) e⟩
  | frz ob u ih => obtain ⟨e, q⟩ := x; exact ⟨k _ _ (.inl rfl) e, ih q⟩
  | tbl ps =>
    have e : h.get? a = some { cls := .none, data := .fields ps } := x
    show h'.get? a = some { cls := .none, data := .fields ps }
    exact k a _ (.inl rfl) e
  | met f y =>
    have e : h.get? a = some (PySem.W.methodObj (.ref f) (.ref y)) := x
    show h'.get? a = some (PySem.W.methodObj (.ref f) (.ref y))
    exact k a _ (.inl rfl) e
  | ext φ => obtain ⟨p, ⟨o, e⟩, st⟩ := x; exact ⟨st _ _ p fun o q => k _ _ (.inl rfl) q, ⟨o, k _ _ (.inl rfl) e⟩, st⟩
theorem HOk.lt (x : HOk P w H h) (e : H a = some o) : a < h.objs.size := (x a o e).lt
theorem HOk.fresh (x : HOk P w H h) (e : h.objs.size ≤ a) : H a = none := by
  cases q : H a with
  | none => rfl
  | some u => exact absurd (Nat.lt_of_lt_of_le (x.lt q) e) (Nat.lt_irrefl _)
theorem HOk.kept (x : HOk P w H h) (k : ∀ b u, h.get? b = some u → h'.get? b = some u) : HOk P w H h' := fun a o e =>
  (x a o e).stay (fun b u _ q => k b u q) (fun _ q => q) fun _ _ q => q
theorem HOk.laid (x : HOk P w H h) (k : ∀ b u, h.get? b = some u → h'.get? b = some u) (hp : h.objs.size ≤ a) (new : ObjOk P w (upd H a o) h' a o) : HOk P w (upd H a o) h' := fun b u e => by
  have hn := x.fresh hp
  by_cases hb : b = a
  · subst hb; rw [upd_same] at e; cases e; exact new
  · rw [upd_ne hb] at e
    exact (x b u e).stay (fun c v _ q => k c v q) (fun c q => by rw [upd_ne (ne_of_none q hn)]; exact q) fun c xs q => by rw [upd_ne (ne_of_none q hn)]; exact q
end
def Rd (H : Hp) (a : Addr) (u : HO) : Prop := H a = some u ∨ ∃ o, H a = some (.frz o u)
theorem Rd.of {H : Hp} {a : Addr} {u : HO} (h : H a = some u) : Rd H a u := .inl h
theorem Rd.ok {P : Program} {w : World} {H : Hp} {h : Heap} {a : Addr} {u : HO} (r : Rd H a u) (x : HOk P w H h) : ObjOk P w H h a u := by
  rcases r with r | ⟨o, r⟩
  · exact x a u r
  · obtain ⟨_, q⟩ := x a _ r
    exact q
def Mut : Option HO → Prop
  | some (.lst _) => True
  | some (.dK _) => True
  | some (.dT _) => True
  | some (.set _ _) => True
  | some (.ins _ _ _) => True
  | some (.ext _) => True
  | _ => False
section
variable {P : Program} {w : World} {H : Hp} {h h' : Heap} {x e : Addr} {o' : HO}
theorem HOk.write (ok : HOk P w H h) (mu : Mut (H x)) (he : e = x ∨ H e = some (.own x)) (k : ∀ b u, b ≠ e → h.get? b = some u → h'.get? b = some u) (heo : ∃ u, h'.get? e = some u)
    (new : ObjOk P w (upd H x o') h' x o') : HOk P w (upd H x o') h' := fun b u q => by
  have nown : ∀ c y, H c = some (.own y) → c ≠ x := fun c y r z => by subst z; rw [r] at mu; exact mu
  have ntup : ∀ c xs, H c = some (.tup xs) → c ≠ x := fun c xs r z => by subst z; rw [r] at mu; exact mu
  by_cases hb : b = x
  · subst hb; rw [upd_same] at q; cases q; exact new
  · rw [upd_ne hb] at q
    by_cases hbe : b = e
    · have q' : H b = some (.own x) := by
        rcases he with z | z
        · exact absurd (hbe.trans z) hb
        · rw [hbe]; exact z
      rw [q] at q'; cases q'
      obtain ⟨v, hv⟩ := heo
      exact ⟨v, by rw [hbe]; exact hv⟩
    · refine (ok b u q).stay (fun c v hc r => k c v ?_ r) (fun c r => by rw [upd_ne (nown c b r)]; exact r) fun c xs r => by rw [upd_ne (ntup c xs r)]; exact r
      rcases hc with rfl | hc
      · exact hbe
      · rintro rfl
        rcases he with z | z
        · exact nown c b hc z
        · rw [hc] at z; cases z; exact hb rfl
end
structure Un (fs ex : List Addr) (H H' : Hp) (h h' : Heap) : Prop where
  keep : ∀ b o, h.get? b = some o → H b = none → b ∉ fs → b ∉ ex → h'.get? b = some o
  slot : ∀ b o, h.get? b = some o → H b = none → b ∈ fs → b ∉ ex → ∃ sl, h'.get? b = some { o with slots := sl }
  free : ∀ b o, h.get? b = some o → H b = none → b ∉ ex → H' b = none
  there : ∀ b o, h.get? b = some o → b ∉ ex → ∃ o', h'.get? b = some o'
  tups : ∀ b xs, H b = some (.tup xs) → H' b = some (.tup xs)
  frzs : ∀ b o u, H b = some (.frz o u) → H' b = some (.frz o u)
  tbls : ∀ b ps, H b = some (.tbl ps) → ∃ more, H' b = some (.tbl (ps ++ more))
section
variable {fs fs' ex ex' : List Addr} {H H1 H2 : Hp} {h h1 h2 h' : Heap} {a x e : Addr} {o : HO}
theorem Un.any (u : Un fs ex H H1 h h1) {b : Addr} {ob : Obj} (q : h.get? b = some ob) (n : H b = none) (hx : b ∉ ex) : ∃ sl, h1.get? b = some { ob with slots := sl } := by
  by_cases hb : b ∈ fs
  · exact u.slot b ob q n hb hx
  · exact ⟨ob.slots, u.keep b ob q n hb hx⟩
theorem Un.trans (a : Un fs ex H H1 h h1) (b : Un fs ex H1 H2 h1 h2) : Un fs ex H H2 h h2 where
  keep := fun c ob q n hc hx => b.keep c ob (a.keep c ob q n hc hx) (a.free c ob q n hx) hc hx
  slot := fun c ob q n hc hx => by
    obtain ⟨sl, e1⟩ := a.slot c ob q n hc hx
    obtain ⟨sl', e2⟩ := b.slot c _ e1 (a.free c ob q n hx) hc hx
    exact ⟨sl', e2⟩
  free := fun c ob q n hx => by
    obtain ⟨o', e1⟩ := a.there c ob q hx
    exact b.free c o' e1 (a.free c ob q n hx) hx
  there := fun c ob q hx => by
    obtain ⟨o', e1⟩ := a.there c ob q hx
    exact b.there c o' e1 hx
  tups := fun c xs q => b.tups c xs (a.tups c xs q)
  frzs := fun c ob xs q => b.frzs c ob xs (a.frzs c ob xs q)
  tbls := fun c ps q => by
    obtain ⟨m1, e1⟩ := a.tbls c ps q
    obtain ⟨m2, e2⟩ := b.tbls c _ e1
    exact ⟨m1 ++ m2, by rw [e2, Array.append_assoc]⟩
theorem Un.kept (k : ∀ b u, h.get? b = some u → h'.get? b = some u) : Un fs ex H H h h' :=
  ⟨fun b ob q _ _ _ => k b ob q, fun b ob q _ _ _ => ⟨ob.slots, k b ob q⟩, fun _ _ _ n _ => n, fun b ob q _ => ⟨ob, k b ob q⟩, fun _ _ q => q, fun _ _ _ q => q, fun _ ps q => ⟨#[], by rw [q]; simp⟩⟩
theorem Un.refl : Un fs ex H H h h := Un.kept fun _ _ q => q
theorem Un.laid (k : ∀ b u, h.get? b = some u → h'.get? b = some u) (hp : h.objs.size ≤ a) (hn : H a = none) : Un fs ex H (upd H a o) h h' where
  keep := fun b u q _ _ _ => k b u q
  slot := fun b u q _ _ _ => ⟨u.slots, k b u q⟩
  free := fun b u q n _ => by rw [upd_ne (Nat.ne_of_lt (Nat.lt_of_lt_of_le (Heap.lt_size q) hp))]; exact n
  there := fun b u q _ => ⟨u, k b u q⟩
  tups := fun b xs q => by rw [upd_ne (ne_of_none q hn)]; exact q
  frzs := fun b u xs q => by rw [upd_ne (ne_of_none q hn)]; exact q
  tbls := fun b ps q => ⟨#[], by rw [upd_ne (ne_of_none q hn), q]; simp⟩
theorem Un.write (mu : Mut (H x)) (he : e = x ∨ H e = some (.own x)) (k : ∀ b u, b ≠ e → h.get? b = some u → h'.get? b = some u) (heo : ∃ u, h'.get? e = some u) : Un fs ex H (upd H x o) h h' := by
  have hx : ∀ b, H b = none → b ≠ x := fun b n z => by subst z; rw [n] at mu; exact mu
  have hb : ∀ b, H b = none → b ≠ e := fun b n z => by
    subst z
    rcases he with r | r
    · exact hx b n r
    · rw [n] at r; cases r
  have hm : ∀ b u, H b = some u → ¬ Mut (some u) → b ≠ x := fun b u q nm z => by subst z; rw [q] at mu; exact nm mu
  refine ⟨fun b u q n _ _ => k b u (hb b n) q, fun b u q n _ _ => ⟨u.slots, k b u (hb b n) q⟩, fun b u q n _ => by rw [upd_ne (hx b n)]; exact n, fun b u q _ => ?_,
    fun b xs q => by rw [upd_ne (hm b _ q fun z => z)]; exact q, fun b u xs q => by rw [upd_ne (hm b _ q fun z => z)]; exact q, fun b ps q => ⟨#[], by rw [upd_ne (hm b _ q fun z => z), q]; simp⟩⟩
  by_cases hbe : b = e
  · subst hbe; exact heo
  · exact ⟨u, k b u hbe q⟩
theorem Un.mono (u : Un fs ex H H1 h h1) (hs : ∀ b ∈ fs, b ∈ fs') (hx : ∀ b ∈ ex, b ∈ ex') : Un fs' ex' H H1 h h1 :=
  ⟨fun b ob q n hb he => u.keep b ob q n (fun z => hb (hs b z)) fun z => he (hx b z), fun _ _ q n _ he => u.any q n fun z => he (hx _ z), fun b ob q n he => u.free b ob q n fun z => he (hx b z), fun b ob q he => u.there b ob q fun z => he (hx b z), u.tups, u.frzs, u.tbls⟩
end
def trk (h : Heap) (H : Hp) : List Addr := (List.range h.objs.size).filter fun a => (H a).isSome
def hidT (h : Heap) (H : Hp) : Heap := PySem.W.hideAll h (trk h H)
theorem hidT_size (h : Heap) (H : Hp) : (hidT h H).objs.size = h.objs.size := PySem.W.hideAll_size _ _
theorem hidT_get {h : Heap} {H : Hp} {b : Addr} {o : Obj} (e : h.get? b = some o) (n : H b = none) : (hidT h H).get? b = some o :=
  PySem.W.hideAll_get _ e fun hm => by
    have q : (H b).isSome = true := (List.mem_filter.mp hm).2
    rw [n] at q; simp at q
theorem of_hidT {h : Heap} {H : Hp} {b : Addr} {o : Obj} (e : (hidT h H).get? b = some o) : h.get? b = some o ∧ H b = none := by
  have e' : h.get? b = some o := PySem.W.of_hideAll (trk h H) e
  refine ⟨e', ?_⟩
  cases q : H b with
  | none => rfl
  | some x =>
    have hm : b ∈ trk h H := List.mem_filter.mpr ⟨List.mem_range.mpr (Heap.lt_size e'), by simp [q]⟩
    have z : (hidT h H).get? b = none := PySem.W.hideAll_none (trk h H) hm
    rw [z] at e; cases e
def allNews (g h : Heap) (L : Addr) : List (Addr × Obj) := (List.range h.objs.size).filterMap fun a => if a = L ∨ (g.get? a).isSome = true then none else (h.get? a).map fun o => (a, o)
def rest (g h : Heap) (L d : Addr) : List (Addr × Obj) := (allNews g h L).filter fun p => decide (p.1 ≠ d)
end L2
namespace L2
open PySem PySem.Spec PyProof.Rows
structure Mod (K : PySem.W.Frag) (mg : Str → Option Value) (base : Heap) : Prop where
  kin : K.In base
  glob : base.Ns mainGlobals mg
  blt : ∃ mb, base.Ns builtinsNs mb ∧ ∀ x : Str, x ≠ "__name__" → mb x = bootBuiltins x
  nolimit : base.NoLimit
structure Cx where
  prog : Program
  w : World
  K : PySem.W.Frag
  mg : Str → Option Value
  base : Heap
  A : Around
  N : List Str
  s₀ : Shared
  H₀ : Hp
  env : Env
  outer : List Env
  stack : List Env
  ex : List Addr
  fn : Str → Bool
  calm : Bool
  pn : List (Addr × Obj)
  xe : Value → Shared → Prop
def frs (l : List Env) : List Addr := l.filterMap (·.frame)
abbrev Cx.fs (X : Cx) : List Addr := frs X.outer
def Vis (sc : Scope) (x : Str) : Prop := sc.names.lookup x = some .local ∨ sc.names.lookup x = some .cell ∨ sc.names.lookup x = some .free
def Loc (sc : Scope) (x : Str) : Prop := sc.names.lookup x = some .local ∨ sc.names.lookup x = some .cell
def Look (env : Env) (h : Heap) (m : Str → Option Value) (x : Str) (u : Value) : Prop :=
  (env.kindOf x = some .local ∧ m x = some u) ∨ ((env.kindOf x = some .cell ∨ env.kindOf x = some .free) ∧ ∃ c, env.cells.lookup x = some c ∧ h.IsCell c (some u))
structure Cx.Ok (X : Cx) : Prop where
  mod : Mod X.K X.mg X.base
  kind : X.env.scope.kind = .function
  glob : X.env.globals = mainGlobals
  blt : X.env.builtins = builtinsNs
  above : X.s₀.heap.objs.size ≤ X.env.locals
  inj : ∀ x y c, X.env.cells.lookup x = some c → X.env.cells.lookup y = some c → x = y
  has : ∀ x, (X.env.kindOf x = some .cell ∨ X.env.kindOf x = some .free) → ∃ c, X.env.cells.lookup x = some c
  cab : ∀ x c, X.fn x = true → X.env.cells.lookup x = some c → X.s₀.heap.objs.size ≤ c
  hd : X.calm = true → X.A.handled = none
  frames : X.A.frames = some X.stack
  stk : X.stack = X.outer ∨ (X.stack = X.env :: X.outer ∧ X.env.frame = some X.env.locals)
  exf : ∀ b ∈ X.ex, b ≠ X.env.locals ∧ ∀ x c, X.env.cells.lookup x = some c → c ≠ b
  bs : ∀ b o, X.base.get? b = some o → X.s₀.heap.get? b = some o ∧ X.H₀ b = none
  bsz : X.base.objs.size ≤ X.s₀.heap.objs.size
  noex : ∀ b o, X.base.get? b = some o → b ∉ X.ex
  exfs : ∀ b ∈ X.ex, b ∉ X.fs
  funs : X.s₀.heap.FunFrames X.base X.outer
  frf : ∀ b ∈ X.fs, X.H₀ b = none
structure Inv (X : Cx) (pins : List (Addr × Obj)) (σ : List (Option V)) (H : Hp) (s : Shared) : Prop where
  ok : X.Ok
  os : s.os = X.s₀.os
  bare : AllBare s.gens
  base : Un X.fs X.ex X.H₀ H X.s₀.heap s.heap
  loc : ∃ m, s.heap.Ns X.env.locals m ∧ ∀ (i : Nat) (x : Str) (v : V), X.N[i]? = some x → σ[i]? = some (some v) → Vis X.env.scope x → ∃ u, RelV v u ∧ Look X.env s.heap m x u
  cell : ∀ x c, X.env.cells.lookup x = some c → ∃ v, s.heap.IsCell c v
  free : H X.env.locals = none
  freeC : ∀ x c, X.env.cells.lookup x = some c → H c = none
  pin : ∀ p ∈ X.pn ++ pins, s.heap.get? p.1 = some p.2 ∧ H p.1 = none ∧ p.1 ≠ X.env.locals ∧ p.1 ∉ X.fs ∧ ∀ v, p.2.data ≠ .cell v
  hok : HOk X.prog X.w H s.heap
  len : σ.length = X.N.length
section
variable {X : Cx} {pins : List (Addr × Obj)} {σ : List (Option V)} {H H' : Hp} {s : Shared} {h' : Heap}
theorem Cx.Ok.nofr (ok : X.Ok) {b : Addr} {o : Obj} (e : X.base.get? b = some o) : b ∉ X.fs := fun hb => by
  have := (ok.funs.mem hb).1
  rw [e] at this; cases this
theorem Inv.bs (I : Inv X pins σ H s) : ∀ b o, X.base.get? b = some o → s.heap.get? b = some o ∧ H b = none := fun b o e =>
  ⟨I.base.keep b o (I.ok.bs b o e).1 (I.ok.bs b o e).2 (I.ok.nofr e) (I.ok.noex b o e), I.base.free b o (I.ok.bs b o e).1 (I.ok.bs b o e).2 (I.ok.noex b o e)⟩
theorem Inv.bk (I : Inv X pins σ H s) : ∀ b o, X.base.get? b = some o → s.heap.get? b = some o := fun b o e => (I.bs b o e).1
theorem Inv.mod (I : Inv X pins σ H s) : Mod X.K X.mg X.base := I.ok.mod
theorem Inv.kIn (I : Inv X pins σ H s) : X.K.In s.heap := I.ok.mod.kin.keeps I.bk
theorem Inv.nolimit (I : Inv X pins σ H s) : s.heap.NoLimit := I.ok.mod.nolimit.keeps I.bk
theorem Inv.lt (I : Inv X pins σ H s) : X.env.locals < s.heap.objs.size := let ⟨_, hn, _⟩ := I.loc; hn.lt
theorem Inv.sz (I : Inv X pins σ H s) : X.s₀.heap.objs.size ≤ s.heap.objs.size := Nat.le_trans I.ok.above (Nat.le_of_lt I.lt)
theorem Inv.nofs (I : Inv X pins σ H s) {a : Addr} (h : s.heap.objs.size ≤ a) : a ∉ X.fs := fun hb => by
  obtain ⟨_, o, ho, _⟩ := I.ok.funs.mem hb
  exact absurd (Nat.lt_of_lt_of_le (Heap.lt_size ho) (Nat.le_trans I.sz h)) (Nat.lt_irrefl _)
theorem Inv.cne (I : Inv X pins σ H s) : ∀ x c, X.env.cells.lookup x = some c → c ≠ X.env.locals := fun x c e z => by
  obtain ⟨v, o, ho, hd⟩ := I.cell x c e
  obtain ⟨m, ⟨o', es, ep, ho', hd', _⟩, _⟩ := I.loc
  rw [z, ho'] at ho; cases ho; rw [hd'] at hd; cases hd
theorem Inv.funs (I : Inv X pins σ H s) : s.heap.FunFrames X.base X.outer := by
  have all : ∀ (l : List Env), (∀ b ∈ frs l, b ∈ X.fs) → X.s₀.heap.FunFrames X.base l → s.heap.FunFrames X.base l := by
    intro l
    induction l with
    | nil => intro _ _; trivial
    | cons env r ih =>
      intro hs hl
      obtain ⟨hk, ⟨L, o, hf, hn, ho, hd⟩, hr⟩ := hl
      have hL : L ∈ X.fs := hs L (by unfold frs; rw [List.filterMap_cons, hf]; exact List.mem_cons_self)
      obtain ⟨sl, e⟩ := I.base.slot L o ho (I.ok.frf L hL) hL fun z => I.ok.exfs L z hL
      exact ⟨hk, ⟨L, _, hf, hn, e, hd⟩, ih (fun b hb => hs b (by unfold frs; rw [List.filterMap_cons, hf]; exact List.mem_cons_of_mem _ hb)) hr⟩
  exact all X.outer (fun _ hb => hb) I.ok.funs
theorem Inv.stack (I : Inv X pins σ H s) : s.heap.FunFrames X.base X.stack := by
  rcases I.ok.stk with e | ⟨e, hf⟩
  · rw [e]; exact I.funs
  · rw [e]
    obtain ⟨m, hn, _⟩ := I.loc
    refine .cons (by rw [I.ok.kind]; decide) hf hn ?_ I.funs
    exact Heap.get?_none_of_le (Nat.le_trans I.ok.bsz I.ok.above)
theorem Inv.stkSub (I : Inv X pins σ H s) : ∀ b ∈ frs X.stack, b ∈ X.env.locals :: X.fs := fun b hb => by
  rcases I.ok.stk with e | ⟨e, hf⟩
  · rw [e] at hb; exact List.mem_cons_of_mem _ hb
  · rw [e] at hb
    unfold frs at hb
    rw [List.filterMap_cons, hf] at hb
    exact hb
theorem Inv.stkFree (I : Inv X pins σ H s) : ∀ b ∈ frs X.stack, H b = none := fun b hb => by
  rcases List.mem_cons.mp (I.stkSub b hb) with e | hb
  · rw [e]; exact I.free
  · obtain ⟨_, o, ho, _⟩ := I.ok.funs.mem hb
    exact I.base.free b o ho (I.ok.frf b hb) fun z => I.ok.exfs b z hb
theorem Inv.step {g' : Array GenState} {t' : Nat} {d' : Drawn} {ch : List Addr} (I : Inv X pins σ H s)
    (hch : ∀ b ∈ ch, (b ∈ X.ex ∨ X.s₀.heap.objs.size ≤ b) ∧ b ≠ X.env.locals ∧ (∀ x c, X.env.cells.lookup x = some c → c ≠ b) ∧ ∀ p ∈ X.pn ++ pins, p.1 ≠ b)
    (keep : ∀ b o, b ≠ X.env.locals → b ∉ X.fs → b ∉ ch → s.heap.get? b = some o → H b = none → h'.get? b = some o)
    (slot : ∀ b o, b ≠ X.env.locals → b ∈ X.fs → b ∉ ch → s.heap.get? b = some o → H b = none → ∃ sl, h'.get? b = some { o with slots := sl }) (free : ∀ b o, b ∉ ch → s.heap.get? b = some o → H b = none → H' b = none)
    (there : ∀ b o, b ∉ ch → s.heap.get? b = some o → ∃ o', h'.get? b = some o')
    (tups : ∀ b xs, H b = some (.tup xs) → H' b = some (.tup xs)) (frzs : ∀ b o u, H b = some (.frz o u) → H' b = some (.frz o u)) (tbls : ∀ b ps, H b = some (.tbl ps) → ∃ more, H' b = some (.tbl (ps ++ more)))
    (ns : ∀ m, s.heap.Ns X.env.locals m → h'.Ns X.env.locals m) (hok : HOk X.prog X.w H' h') (hg : AllBare g') :
    Inv X pins σ H' { s with heap := h', gens := g', drawn := d', toks := t' } := by
  have neL : ∀ b o, X.s₀.heap.get? b = some o → b ≠ X.env.locals := fun b o e => Nat.ne_of_lt (Nat.lt_of_lt_of_le (Heap.lt_size e) I.ok.above)
  have neC : ∀ b o, X.s₀.heap.get? b = some o → b ∉ X.ex → b ∉ ch := fun b o e hx hb => by
    rcases (hch b hb).1 with z | z
    · exact hx z
    · exact absurd (Nat.lt_of_lt_of_le (Heap.lt_size e) z) (Nat.lt_irrefl _)
  have cellK : ∀ x c, X.env.cells.lookup x = some c → ∀ v, s.heap.IsCell c v → h'.IsCell c v := fun x c e v ⟨o, ho, hd⟩ => by
    have nch : c ∉ ch := fun z => (hch c z).2.2.1 x c e rfl
    by_cases hc : c ∈ X.fs
    · obtain ⟨sl, q⟩ := slot c o (I.cne x c e) hc nch ho (I.freeC x c e)
      exact ⟨_, q, hd⟩
    · exact ⟨o, keep c o (I.cne x c e) hc nch ho (I.freeC x c e), hd⟩
  refine ⟨I.ok, I.os, hg, ⟨fun b o e n hb hx => ?_, fun b o e n hb hx => ?_, fun b o e n hx => ?_, fun b o e hx => ?_, fun b xs e => tups b xs (I.base.tups b xs e), fun b o xs e => frzs b o xs (I.base.frzs b o xs e), fun b ps e => ?_⟩, ?_, fun x c e => ?_, ?_, fun x c e => ?_, fun p hp => ?_, hok, I.len⟩
  · exact keep b o (neL b o e) hb (neC b o e hx) (I.base.keep b o e n hb hx) (I.base.free b o e n hx)
  · obtain ⟨sl, e1⟩ := I.base.slot b o e n hb hx
    obtain ⟨sl', e2⟩ := slot b _ (neL b o e) hb (neC b o e hx) e1 (I.base.free b o e n hx)
    exact ⟨sl', e2⟩
  · obtain ⟨o', e1⟩ := I.base.there b o e hx
    exact free b o' (neC b o e hx) e1 (I.base.free b o e n hx)
  · obtain ⟨o', e1⟩ := I.base.there b o e hx
    exact there b o' (neC b o e hx) e1
  · obtain ⟨m1, e1⟩ := I.base.tbls b ps e
    obtain ⟨m2, e2⟩ := tbls b _ e1
    exact ⟨m1 ++ m2, by rw [e2, Array.append_assoc]⟩
  · obtain ⟨m, hn, hl⟩ := I.loc
    refine ⟨m, ns m hn, fun i x v e1 e2 e3 => ?_⟩
    obtain ⟨u, r, l⟩ := hl i x v e1 e2 e3
    refine ⟨u, r, ?_⟩
    rcases l with l | ⟨k, c, e, z⟩
    · exact .inl l
    · exact .inr ⟨k, c, e, cellK x c e _ z⟩
  · obtain ⟨v, z⟩ := I.cell x c e
    exact ⟨v, cellK x c e v z⟩
  · obtain ⟨m, ⟨o, _, _, ho, _⟩, _⟩ := I.loc
    exact free _ o (fun z => (hch _ z).2.1 rfl) ho I.free
  · obtain ⟨v, o, ho, hd⟩ := I.cell x c e
    exact free c o (fun z => (hch c z).2.2.1 x c e rfl) ho (I.freeC x c e)
  · obtain ⟨e, n, ne, nf, d⟩ := I.pin p hp
    have nch : p.1 ∉ ch := fun z => (hch p.1 z).2.2.2 p hp rfl
    exact ⟨keep p.1 p.2 ne nf nch e n, free p.1 p.2 nch e n, ne, nf, d⟩
theorem Inv.un {t' : Nat} (I : Inv X pins σ H s) (u : Un X.fs [] H H' s.heap h') (hok : HOk X.prog X.w H' h') : Inv X pins σ H' { s with heap := h', toks := t' } := by
  obtain ⟨m, ⟨o, es, ep, ho, r⟩, _⟩ := id I.loc
  obtain ⟨sl, hL⟩ := u.any ho I.free (by simp)
  exact I.step (g' := s.gens) (d' := s.drawn) (ch := []) (fun _ z => nomatch z) (fun b o _ hb _ e n => u.keep b o e n hb (by simp)) (fun b o _ hb _ e n => u.slot b o e n hb (by simp)) (fun b o _ e n => u.free b o e n (by simp)) (fun b o _ e => u.there b o e (by simp)) u.tups u.frzs u.tbls (fun m' hm => by
    obtain ⟨o', es', ep', ho', r'⟩ := hm
    rw [ho] at ho'; cases ho'
    exact ⟨_, es', ep', hL, r'⟩) hok I.bare
theorem Inv.call {g' : Array GenState} {t' : Nat} {d' : Drawn} {ch : List Addr} (I : Inv X pins σ H s) (u : Un (frs X.stack) ch H H' s.heap h') (hok : HOk X.prog X.w H' h') (hg : AllBare g')
    (hch : ∀ b ∈ ch, (b ∈ X.ex ∨ X.s₀.heap.objs.size ≤ b) ∧ b ≠ X.env.locals ∧ (∀ x c, X.env.cells.lookup x = some c → c ≠ b) ∧ ∀ p ∈ X.pn ++ pins, p.1 ≠ b) :
    Inv X pins σ H' { s with heap := h', gens := g', drawn := d', toks := t' } := by
  obtain ⟨m, ⟨o, es, ep, ho, r⟩, _⟩ := id I.loc
  obtain ⟨sl, hL⟩ := u.any ho I.free fun z => (hch _ z).2.1 rfl
  exact I.step (ch := ch) hch (fun b o hL hb hc e n => u.keep b o e n (fun z => (List.mem_cons.mp (I.stkSub b z)).elim hL hb) hc) (fun b o _ _ hc e n => u.any e n hc) (fun b o hc e n => u.free b o e n hc) (fun b o hc e => u.there b o e hc) u.tups u.frzs u.tbls (fun m' hm => by
    obtain ⟨o', es', ep', ho', r'⟩ := hm
    rw [ho] at ho'; cases ho'
    exact ⟨_, es', ep', hL, r'⟩) hok hg
theorem Inv.turned {t' : Nat} {it : Addr} (I : Inv X pins σ H s) (k : ∀ b o, b ≠ it → s.heap.get? b = some o → h'.get? b = some o) (hn : H it = none) (hL : it ≠ X.env.locals)
    (h1 : it ∈ X.ex ∨ X.s₀.heap.objs.size ≤ it) (h2 : ∀ x c, X.env.cells.lookup x = some c → c ≠ it) (h3 : ∀ p ∈ X.pn ++ pins, p.1 ≠ it) : Inv X pins σ H { s with heap := h', toks := t' } := by
  have nit : ∀ b u, H b = some u → b ≠ it := fun b u e z => by rw [z, hn] at e; cases e
  refine I.step (g' := s.gens) (d' := s.drawn) (ch := [it]) (fun b hb => ?_) (fun b o _ _ hc e _ => k b o (fun z => hc (by simp [z])) e) (fun b o _ _ hc e _ => ⟨o.slots, k b o (fun z => hc (by simp [z])) e⟩) (fun _ _ _ _ n => n)
    (fun b o hc e => ⟨o, k b o (fun z => hc (by simp [z])) e⟩) (fun _ _ e => e) (fun _ _ _ e => e) (fun b ps e => ⟨#[], by rw [e]; simp⟩) (fun m hm => ?_) (fun b u e => ?_) I.bare
  · have e : b = it := by simpa using hb
    subst e
    exact ⟨h1, hL, h2, h3⟩
  · obtain ⟨o, es, ep, ho, r⟩ := hm
    exact ⟨o, es, ep, k _ o (Ne.symm hL) ho, r⟩
  · refine (I.hok b u e).stay (fun c v hc q => k c v ?_ q) (fun _ q => q) fun _ _ q => q
    rcases hc with z | z
    · rw [z]; exact nit b u e
    · exact nit c _ z
theorem Inv.tok (I : Inv X pins σ H s) (t : Nat) : Inv X pins σ H { s with toks := t } := I.un (h' := s.heap) (t' := t) Un.refl I.hok
theorem Inv.kept {t' : Nat} (I : Inv X pins σ H s) (k : ∀ b u, s.heap.get? b = some u → h'.get? b = some u) : Inv X pins σ H { s with heap := h', toks := t' } := I.un (Un.kept k) (I.hok.kept k)
theorem Inv.laid {a : Addr} {o : HO} {t' : Nat} (I : Inv X pins σ H s) (k : ∀ b u, s.heap.get? b = some u → h'.get? b = some u) (hp : s.heap.objs.size ≤ a) (new : ObjOk X.prog X.w (upd H a o) h' a o) :
    Inv X pins σ (upd H a o) { s with heap := h', toks := t' } := I.un (Un.laid k hp (I.hok.fresh hp)) (I.hok.laid k hp new)
theorem Inv.write {x e : Addr} {o : HO} {t' : Nat} (I : Inv X pins σ H s) (mu : Mut (H x)) (he : e = x ∨ H e = some (.own x)) (k : ∀ b u, b ≠ e → s.heap.get? b = some u → h'.get? b = some u) (heo : ∃ u, h'.get? e = some u)
    (new : ObjOk X.prog X.w (upd H x o) h' x o) : Inv X pins σ (upd H x o) { s with heap := h', toks := t' } := I.un (Un.write mu he k heo) (I.hok.write mu he k heo new)
theorem Inv.pins_of {pins' : List (Addr × Obj)} (I : Inv X pins σ H s) (h : ∀ p ∈ pins', s.heap.get? p.1 = some p.2 ∧ H p.1 = none ∧ p.1 ≠ X.env.locals ∧ p.1 ∉ X.fs ∧ ∀ v, p.2.data ≠ .cell v) : Inv X pins' σ H s :=
  ⟨I.ok, I.os, I.bare, I.base, I.loc, I.cell, I.free, I.freeC, fun p hp => (List.mem_append.mp hp).elim (fun z => I.pin p (List.mem_append_left _ z)) (h p), I.hok, I.len⟩
theorem nodup_ix {N : List Str} (hN : N.Nodup) {i j : Nat} {x : Str} (a : N[i]? = some x) (b : N[j]? = some x) : i = j := by
  obtain ⟨h1, e1⟩ := List.getElem?_eq_some_iff.mp a
  obtain ⟨h2, e2⟩ := List.getElem?_eq_some_iff.mp b
  exact (List.getElem_inj hN).mp (e1.trans e2.symm)
theorem store_ok2 {M : Model} {A : Around} {E : Value → Shared → Prop} {i : Nat} {x : Str} {v : V} {u : Value} {Q : Unit → Shared → Prop} (I : Inv X pins σ H s) (hN : X.N.Nodup) (hi : X.N[i]? = some x) (hx : Loc X.env.scope x) (r : RelV v u)
    (h : ∀ s', Inv X pins (σ.set i (some v)) H s' → (∃ a, Heap.SameBut a s.heap s'.heap ∧ (a = X.env.locals ∨ X.env.cells.lookup x = some a)) → Q () s') (hf : X.fn x = true ∨ X.env.scope.names.lookup x = some .local := by first | exact .inl rfl | exact .inr rfl | assumption) : wpAny M A (storeName X.env x u) Q E s := by
  obtain ⟨m, hn, hl⟩ := id I.loc
  have hcls : (X.env.scope.kind == .class || (X.env.scope.kind == .module && X.env.locals != X.env.globals)) = false := by rw [I.ok.kind]; rfl
  have hiσ : i < σ.length := by rw [I.len]; exact (List.getElem?_eq_some_iff.mp hi).1
  have cne := I.cne
  have tracked : ∀ {a : Addr} {h' : Heap}, (∃ o, s.heap.get? a = some o ∧ H a = none) → Heap.SameBut a s.heap h' → HOk X.prog X.w H h' := fun {a h'} ha hs b ob e => by
    obtain ⟨_, _, hfree⟩ := ha
    refine (I.hok b ob e).stay (fun c w' hc q => (hs.2 c ?_).trans q) (fun _ q => q) fun _ _ q => q
    rintro rfl
    rcases hc with rfl | hc
    · rw [hfree] at e; cases e
    · rw [hfree] at hc; cases hc
  rcases hx with hk | hk
  · refine wpAny_storeName_local hk hn (fun h' hn' hs => ?_) hcls
    obtain ⟨oL, _, _, hoL, _⟩ := id hn
    refine h _ ⟨I.ok, I.os, I.bare, ⟨fun b o e n hb hx => ?_, fun b o e n hb hx => ?_, I.base.free, fun b o e hx => ?_, I.base.tups, I.base.frzs, I.base.tbls⟩, ⟨_, hn', fun j y v' e1 e2 e3 => ?_⟩, fun y c e => ?_, I.free, I.freeC, fun p hp => ?_, tracked ⟨oL, hoL, I.free⟩ hs, by simpa using I.len⟩ ⟨_, hs, .inl rfl⟩
    · exact (hs.2 b (Nat.ne_of_lt (Nat.lt_of_lt_of_le (Heap.lt_size e) I.ok.above))).trans (I.base.keep b o e n hb hx)
    · obtain ⟨sl, e1⟩ := I.base.slot b o e n hb hx
      exact ⟨sl, (hs.2 b (Nat.ne_of_lt (Nat.lt_of_lt_of_le (Heap.lt_size e) I.ok.above))).trans e1⟩
    · obtain ⟨o', e1⟩ := I.base.there b o e hx
      exact ⟨o', (hs.2 b (Nat.ne_of_lt (Nat.lt_of_lt_of_le (Heap.lt_size e) I.ok.above))).trans e1⟩
    · by_cases hj : j = i
      · subst hj
        rw [hi] at e1; cases e1
        rw [List.getElem?_set_self hiσ] at e2
        cases e2
        exact ⟨u, r, .inl ⟨hk, by simp⟩⟩
      · rw [List.getElem?_set_ne (Ne.symm hj)] at e2
        obtain ⟨u', r', q⟩ := hl j y v' e1 e2 e3
        refine ⟨u', r', ?_⟩
        rcases q with ⟨k, e⟩ | ⟨k, c, e, z⟩
        · refine .inl ⟨k, ?_⟩
          have : y ≠ x := fun e => hj (nodup_ix hN e1 (e ▸ hi))
          simp [this, e]
        · exact .inr ⟨k, c, e, z.sameBut hs (cne y c e)⟩
    · obtain ⟨w', z⟩ := I.cell y c e
      exact ⟨w', z.sameBut hs (cne y c e)⟩
    · obtain ⟨e, n, ne, nf, d⟩ := I.pin p hp
      exact ⟨(hs.2 p.1 ne).trans e, n, ne, nf, d⟩
  · have hfn : X.fn x = true := by
      rcases hf with z | z
      · exact z
      · rw [z] at hk; cases hk
    obtain ⟨c, hc⟩ := I.ok.has x (.inl hk)
    obtain ⟨w', z⟩ := I.cell x c hc
    refine wpAny_storeName_cell I.ok.kind hk hc z (fun h' hc' hs => ?_)
    obtain ⟨oc, hoc, hocd⟩ := id z
    refine h { s with heap := h' } ⟨I.ok, I.os, I.bare, ⟨fun b o e n hb hx => ?_, fun b o e n hb hx => ?_, I.base.free, fun b o e hx => ?_, I.base.tups, I.base.frzs, I.base.tbls⟩, ⟨m, hn.sameBut hs (Ne.symm (cne x c hc)), fun j y v' e1 e2 e3 => ?_⟩, fun y c' e => ?_, I.free, I.freeC, fun p hp => ?_, tracked ⟨oc, hoc, I.freeC x c hc⟩ hs, by simpa using I.len⟩ ⟨c, hs, .inr hc⟩
    · exact (hs.2 b (Nat.ne_of_lt (Nat.lt_of_lt_of_le (Heap.lt_size e) (I.ok.cab x c hfn hc)))).trans (I.base.keep b o e n hb hx)
    · obtain ⟨sl, e1⟩ := I.base.slot b o e n hb hx
      exact ⟨sl, (hs.2 b (Nat.ne_of_lt (Nat.lt_of_lt_of_le (Heap.lt_size e) (I.ok.cab x c hfn hc)))).trans e1⟩
    · obtain ⟨o', e1⟩ := I.base.there b o e hx
      exact ⟨o', (hs.2 b (Nat.ne_of_lt (Nat.lt_of_lt_of_le (Heap.lt_size e) (I.ok.cab x c hfn hc)))).trans e1⟩
    · by_cases hj : j = i
      · subst hj
        rw [hi] at e1; cases e1
        rw [List.getElem?_set_self hiσ] at e2
        cases e2
        exact ⟨u, r, .inr ⟨.inl hk, c, hc, hc'⟩⟩
      · rw [List.getElem?_set_ne (Ne.symm hj)] at e2
        obtain ⟨u', r', q⟩ := hl j y v' e1 e2 e3
        refine ⟨u', r', ?_⟩
        rcases q with q | ⟨k, c', e, z'⟩
        · exact .inl q
        · refine .inr ⟨k, c', e, z'.sameBut hs ?_⟩
          rintro rfl
          exact hj (nodup_ix hN e1 (I.ok.inj _ _ _ e hc ▸ hi))
    · by_cases hcc : c' = c
      · subst hcc; exact ⟨_, hc'⟩
      · obtain ⟨w2, z2⟩ := I.cell y c' e
        exact ⟨w2, z2.sameBut hs hcc⟩
    · obtain ⟨e, n, ne, nf, d⟩ := I.pin p hp
      refine ⟨(hs.2 p.1 ?_).trans e, n, ne, nf, d⟩
      intro q
      rw [q, hoc] at e
      have q' : oc = p.2 := Option.some.inj e
      exact d w' (by rw [← q']; exact hocd)
theorem store_ok {M : Model} {A : Around} {E : Value → Shared → Prop} {i : Nat} {x : Str} {v : V} {u : Value} {Q : Unit → Shared → Prop} (I : Inv X pins σ H s) (hN : X.N.Nodup) (hi : X.N[i]? = some x) (hx : Loc X.env.scope x) (r : RelV v u)
    (h : ∀ s', Inv X pins (σ.set i (some v)) H s' → Q () s') (hf : X.fn x = true ∨ X.env.scope.names.lookup x = some .local := by first | exact .inl rfl | exact .inr rfl | assumption) : wpAny M A (storeName X.env x u) Q E s :=
  store_ok2 I hN hi hx r (fun s' I' _ => h s' I') hf
theorem Inv.call' {s' : Shared} {ch : List Addr} (I : Inv X pins σ H s) (ho : s'.os = s.os) (u : Un (frs X.stack) ch H H' s.heap s'.heap) (hok : HOk X.prog X.w H' s'.heap) (hg : AllBare s'.gens)
    (hch : ∀ b ∈ ch, (b ∈ X.ex ∨ X.s₀.heap.objs.size ≤ b) ∧ b ≠ X.env.locals ∧ (∀ x c, X.env.cells.lookup x = some c → c ≠ b) ∧ ∀ p ∈ X.pn ++ pins, p.1 ≠ b) : Inv X pins σ H' s' := by
  obtain ⟨h', g', d', t', o'⟩ := s'
  have e : o' = s.os := ho
  subst e
  exact I.call (g' := g') (t' := t') (d' := d') u hok hg hch
end
abbrev XK := Value → Option Addr → Hp → Prop
abbrev St := List (Option V)
abbrev VK := V → Hp → Prop
abbrev TE := St → Hp → VK → Prop
abbrev TT := St → Hp → (Bool → Hp → Prop) → Prop
abbrev TA := St → Hp → (List V → Hp → Prop) → Prop
structure Ends where
  nx : St → Hp → Prop
  rt : VK
  bk : St → Hp → Prop := fun _ _ => False
  ct : St → Hp → Prop := fun _ _ => False
abbrev TS := Ends → St → Hp → Prop
def EP (X : Cx) (pins : List (Addr × Obj)) (σ : St) (Q : VK) (u : Value) (s' : Shared) : Prop := ∃ v H', Inv X pins σ H' s' ∧ RelV v u ∧ Q v H'
def TP (X : Cx) (pins : List (Addr × Obj)) (σ : St) (Q : Bool → Hp → Prop) (b : Bool) (s' : Shared) : Prop := ∃ H', Inv X pins σ H' s' ∧ Q b H'
def AP (X : Cx) (pins : List (Addr × Obj)) (σ : St) (Q : List V → Hp → Prop) (us : List Value) (s' : Shared) : Prop := ∃ vs H', Inv X pins σ H' s' ∧ Vals vs us ∧ Q vs H'
def SP (X : Cx) (pins : List (Addr × Obj)) (D : Ends) (f : Flow) (s' : Shared) : Prop :=
  match f with
  | .next => ∃ σ' H', Inv X pins σ' H' s' ∧ D.nx σ' H'
  | .brk => ∃ σ' H', Inv X pins σ' H' s' ∧ D.bk σ' H'
  | .cont => ∃ σ' H', Inv X pins σ' H' s' ∧ D.ct σ' H'
  | .ret u => ∃ v σ' H', Inv X pins σ' H' s' ∧ RelV v u ∧ D.rt v H'
def PE (X : Cx) (e : Expr) (t : TE) : Prop :=
  ∀ (pins : List (Addr × Obj)) (s : Shared) (σ : St) (H : Hp) (Q : VK), Inv X pins σ H s → t σ H Q → wpAny (model X.prog X.w) X.A (eval e X.env) (EP X pins σ Q) X.xe s
def PT (X : Cx) (e : Expr) (t : TT) : Prop :=
  ∀ (pins : List (Addr × Obj)) (s : Shared) (σ : St) (H : Hp) (Q : Bool → Hp → Prop), Inv X pins σ H s → t σ H Q → wpAny (model X.prog X.w) X.A (isTrue e X.env (eval e X.env)) (TP X pins σ Q) X.xe s
def PW (X : Cx) (e : Expr) (t : TT) : Prop :=
  ∀ (whole : Sem Value) (pins : List (Addr × Obj)) (s : Shared) (σ : St) (H : Hp) (Q : Bool → Hp → Prop), Inv X pins σ H s → t σ H Q → wpAny (model X.prog X.w) X.A (isTrue e X.env whole) (TP X pins σ Q) X.xe s
theorem PW.pt {X : Cx} {e : Expr} {t : TT} (h : PW X e t) : PT X e t := h _
def PA (X : Cx) (es : List Expr) (t : TA) : Prop :=
  ∀ (pos : Pos) (pins : List (Addr × Obj)) (s : Shared) (σ : St) (H : Hp) (Q : List V → Hp → Prop), Inv X pins σ H s → t σ H Q → wpAny (model X.prog X.w) X.A (spliced (backTo pos (starEach es X.env))) (AP X pins σ Q) X.xe s
def PS (X : Cx) (st : Stmt) (t : TS) : Prop :=
  ∀ (pins : List (Addr × Obj)) (s : Shared) (σ : St) (H : Hp) (D : Ends), Inv X pins σ H s → t D σ H → wpAny (model X.prog X.w) X.A (exec st X.env) (SP X pins D) X.xe s
def PSs (X : Cx) (st : List Stmt) (t : TS) : Prop :=
  ∀ (pins : List (Addr × Obj)) (s : Shared) (σ : St) (H : Hp) (D : Ends), Inv X pins σ H s → t D σ H → wpAny (model X.prog X.w) X.A (execs st X.env) (SP X pins D) X.xe s
theorem thn {α : Type} {t : Sem α} {Q Q' : α → Shared → Prop} {M : Model} {A : Around} {E : Value → Shared → Prop} {s : Shared} (h : wpAny M A t Q E s) (hQ : ∀ a s, Q a s → Q' a s) : wpAny M A t Q' E s := wpAny_mono h hQ fun _ _ x => x
end L2
namespace L2
open PySem PySem.Spec PyProof.Rows
section
variable {X : Cx}
def tVar (i : Nat) : TE := fun σ H Q => ∃ v, σ[i]? = some (some v) ∧ Q v H
def tC (v : V) : TE := fun _ H Q => Q v H
theorem pe_var {i : Nat} {x : Str} {pos : Pos} (hN : X.N[i]? = some x) (hv : Vis X.env.scope x) (hd : (x == ("__debug__" : Str)) = false := by decide) (hcd : (x == ("__classdict__" : Str)) = false := by decide) : PE X (.Name x pos) (tVar i) := by
  intro pins s σ H Q I h
  obtain ⟨v, e, h⟩ := h
  obtain ⟨m, hn, hl⟩ := I.loc
  obtain ⟨u, r, l⟩ := hl i x v hN e hv
  have fin : EP X pins σ Q u s := ⟨v, H, I, r, h⟩
  rcases l with ⟨hk, hm⟩ | ⟨hk, c, hc, hcell⟩
  · exact wpAny_Name (wpAny_loadName_local I.ok.kind hk hn hm fin) hd
  · rcases hk with hk | hk
    · exact wpAny_Name (wpAny_loadName_cell I.ok.kind hk hc hcell fin) hd
    · exact wpAny_Name (wpAny_loadName_free I.ok.kind hk hc hcell fin hcd) hd
theorem pe_int {i j pos} : PE X (.Constant (.int i) j pos) (tC (.int i)) := fun _ _ _ H _ I h => wpAny_Constant_int ⟨.int i, H, I.tok _, ⟨_, rfl⟩, h⟩
theorem pe_bl {b j pos} : PE X (.Constant (.bool b) j pos) (tC (.bl b)) := fun _ _ _ H _ I h => Constant_bool ⟨.bl b, H, I, rfl, h⟩
def Gl (X : Cx) (x : Str) : Prop := X.env.kindOf x = some .globalImplicit
theorem ld_glob {E : Value → Shared → Prop} {pins : List (Addr × Obj)} {s : Shared} {σ : St} {H : Hp} {x : Str} {u : Value} {pos : Pos} {Q : Value → Shared → Prop} (I : Inv X pins σ H s) (hg : Gl X x) (hm : X.mg x = some u) (h : Q u s)
    (hd : (x == ("__debug__" : Str)) = false := by decide) : wpAny (model X.prog X.w) X.A (eval (.Name x pos) X.env) Q E s :=
  Calls.Name_function_global I.ok.kind hg (Calls.loadGlobal_global (by rw [I.ok.glob]; exact I.mod.glob.keeps I.bk) hm h) hd
theorem ld_blt {E : Value → Shared → Prop} {pins : List (Addr × Obj)} {s : Shared} {σ : St} {H : Hp} {x : Str} {u : Value} {pos : Pos} {Q : Value → Shared → Prop} (I : Inv X pins σ H s) (hg : Gl X x) (hm : X.mg x = none) (hv : bootBuiltins x = some u) (h : Q u s)
    (hn : x ≠ "__name__" := by decide) (hd : (x == ("__debug__" : Str)) = false := by decide) : wpAny (model X.prog X.w) X.A (eval (.Name x pos) X.env) Q E s := by
  obtain ⟨mb, h1, h2⟩ := I.mod.blt
  exact Calls.Name_function_global I.ok.kind hg (Calls.loadGlobal_builtin (by rw [I.ok.glob]; exact I.mod.glob.keeps I.bk) hm (by rw [I.ok.blt]; exact h1.keeps I.bk) ((h2 x hn).trans hv) h) hd
theorem pe_bltn {x : Str} {v : V} {u : Value} {pos : Pos} (hg : Gl X x) (hm : X.mg x = none) (hv : bootBuiltins x = some u) (r : RelV v u) (hn : x ≠ "__name__" := by decide) (hd : (x == ("__debug__" : Str)) = false := by decide) : PE X (.Name x pos) (tC v) :=
  fun _ _ _ H _ I h => ld_blt I hg hm hv ⟨v, H, I, r, h⟩ hn hd
variable {a b : Expr} {ta tb : TE} {pos : Pos}
def tB (t : TE) : TT := fun σ H Q => t σ H fun x H1 => ∃ c, x = .bl c ∧ Q c H1
theorem pt_val {e : Expr} {t : TE} (h : PE X e t) (he : ∀ whole, isTrue e X.env whole = (do let v ← whole; standAt e.pos; holding [v] (truthy v)) := by intro _; rfl) : PT X e (tB t) := by
  intro pins s σ H Q I hw
  refine isTrue_plain (thn (h pins s σ H _ I hw) fun v s1 ⟨x, H1, I1, r1, q1⟩ => ?_) (he _)
  obtain ⟨d, rfl, q⟩ := q1
  cases r1
  exact wpAny_truthy_bool ⟨H1, I1, q⟩
variable {tA tB' : TT} {rest : List Expr}
def tAnd (t u : TT) : TT := fun σ H Q => t σ H fun c H1 => if c = true then u σ H1 Q else Q false H1
def tOr (t u : TT) : TT := fun σ H Q => t σ H fun c H1 => if c = true then Q true H1 else u σ H1 Q
def tNot (t : TT) : TT := fun σ H Q => t σ H fun c H1 => Q (!c) H1
theorem pw_and1 (ha : PT X a tA) : PW X (.BoolOp .And [a] pos) tA := by
  intro wh pins s σ H Q I h
  refine isTrue_and (thn (ha pins s σ H Q I h) fun c s1 e => ?_)
  cases c with
  | true => exact isTrue_and_nil e
  | false => exact e
theorem pw_or1 (ha : PT X a tA) : PW X (.BoolOp .Or [a] pos) tA := by
  intro wh pins s σ H Q I h
  refine isTrue_or (thn (ha pins s σ H Q I h) fun c s1 e => ?_)
  cases c with
  | false => exact isTrue_or_nil e
  | true => exact e
theorem pw_and (ha : PT X a tA) (hb : PW X (.BoolOp .And (b :: rest) pos) tB') : PW X (.BoolOp .And (a :: b :: rest) pos) (tAnd tA tB') := by
  intro wh pins s σ H Q I h
  refine isTrue_and (thn (ha pins s σ H _ I h) fun c s1 ⟨H1, I1, q1⟩ => ?_)
  cases c with
  | true => exact hb wh pins s1 σ H1 Q I1 q1
  | false => exact ⟨H1, I1, q1⟩
theorem pw_or (ha : PT X a tA) (hb : PW X (.BoolOp .Or (b :: rest) pos) tB') : PW X (.BoolOp .Or (a :: b :: rest) pos) (tOr tA tB') := by
  intro wh pins s σ H Q I h
  refine isTrue_or (thn (ha pins s σ H _ I h) fun c s1 ⟨H1, I1, q1⟩ => ?_)
  cases c with
  | true => exact ⟨H1, I1, q1⟩
  | false => exact hb wh pins s1 σ H1 Q I1 q1
theorem pt_not (ha : PT X a tA) : PT X (.UnaryOp .Not a pos) (tNot tA) := by
  intro pins s σ H Q I h
  exact isTrue_not (ha pins s σ H (fun c H1 => Q (!c) H1) I h)
def tAndV (ta tb : TE) : TE := fun σ H Q => ta σ H fun x H1 => ∃ c, x = .bl c ∧ if c = true then tb σ H1 Q else Q (.bl false) H1
def tOrV (ta tb : TE) : TE := fun σ H Q => ta σ H fun x H1 => ∃ c, x = .bl c ∧ if c = true then Q (.bl true) H1 else tb σ H1 Q
def tNotV (ta : TE) : TE := fun σ H Q => ta σ H fun x H1 => ∃ c, x = .bl c ∧ Q (.bl (!c)) H1
theorem pe_one {op} {t : TE} (h : PE X a t) : PE X (.BoolOp op [a] pos) t := fun pins s σ H Q I hw => BoolOp_one (h pins s σ H Q I hw)
theorem pe_and (ha : PE X a ta) (hb : PE X (.BoolOp .And (b :: rest) pos) tb) : PE X (.BoolOp .And (a :: b :: rest) pos) (tAndV ta tb) := by
  intro pins s σ H Q I h
  refine BoolOp_and (thn (ha pins s σ H _ I h) fun v s1 ⟨x, H1, I1, r1, q1⟩ => ?_)
  obtain ⟨c, rfl, q1⟩ := q1
  cases r1
  refine wpAny_truthy_bool ?_
  cases c with
  | true => exact hb pins s1 σ H1 Q I1 q1
  | false => exact ⟨.bl false, H1, I1, rfl, q1⟩
theorem pe_or (ha : PE X a ta) (hb : PE X (.BoolOp .Or (b :: rest) pos) tb) : PE X (.BoolOp .Or (a :: b :: rest) pos) (tOrV ta tb) := by
  intro pins s σ H Q I h
  refine BoolOp_or (thn (ha pins s σ H _ I h) fun v s1 ⟨x, H1, I1, r1, q1⟩ => ?_)
  obtain ⟨c, rfl, q1⟩ := q1
  cases r1
  refine wpAny_truthy_bool ?_
  cases c with
  | false => exact hb pins s1 σ H1 Q I1 q1
  | true => exact ⟨.bl true, H1, I1, rfl, q1⟩
theorem pe_not (ha : PE X a ta) : PE X (.UnaryOp .Not a pos) (tNotV ta) := by
  intro pins s σ H Q I h
  refine UnaryOp_ (thn (ha pins s σ H _ I h) fun v s1 ⟨x, H1, I1, r1, q1⟩ => ?_)
  obtain ⟨c, rfl, q1⟩ := q1
  cases r1
  exact not_of (wpAny_truthy_bool ⟨.bl (!c), H1, I1, rfl, q1⟩)
def tIf (t : TT) (ta tb : TE) : TE := fun σ H Q => t σ H fun c H1 => if c = true then ta σ H1 Q else tb σ H1 Q
theorem pe_ifExp {c : Expr} (hc : PT X c tA) (ha : PE X a ta) (hb : PE X b tb) : PE X (.IfExp c a b pos) (tIf tA ta tb) := by
  intro pins s σ H Q I h
  refine wpAny_IfExp (thn (hc pins s σ H _ I h) fun d s1 ⟨H1, I1, q1⟩ => ?_)
  cases d with
  | true => exact ha pins s1 σ H1 Q I1 q1
  | false => exact hb pins s1 σ H1 Q I1 q1
end
end L2
namespace L2
open PySem PySem.Spec PyProof.Rows
def SqL (K : PySem.W.Frag) (H : Hp) (a : Addr) (xs : List V) : Prop :=
  Rd H a (.lst xs) ∨
    ∃ (o : Obj) (its : Array Value) (n : Nat), K.lookup a = some o ∧ o.cls = .type "list" ∧ o.dict = none ∧ o.data = .seq its n ∧ its.size ≤ sizeLine ∧ Vals xs its.toList
def SqT (K : PySem.W.Frag) (H : Hp) (a : Addr) (xs : List V) : Prop :=
  Rd H a (.tup xs) ∨
    ∃ (o : Obj) (its : Array Value) (n : Nat), K.lookup a = some o ∧ o.cls = .type "tuple" ∧ o.data = .seq its n ∧ its.size ≤ sizeLine ∧ Vals xs its.toList
def absV : Value → Option V
  | .none => some .non
  | .bool b => some (.bl b)
  | .int i _ => some (.int i)
  | .str x _ => some (.str x)
  | .bytes b _ => some (.byt b)
  | .float b _ => some (.flt b)
  | .ref a => some (.ref a)
  | .type n => some (.ty n)
  | _ => none
theorem RelV.abs {x : V} {u : Value} (r : RelV x u) : absV u = some x := by
  cases x with
  | non => cases r; rfl
  | bl _ => cases r; rfl
  | int _ => obtain ⟨t, rfl⟩ := r; rfl
  | str _ => obtain ⟨t, rfl⟩ := r; rfl
  | byt _ => obtain ⟨t, rfl⟩ := r; rfl
  | flt _ => obtain ⟨t, rfl⟩ := r; rfl
  | ref _ => cases r; rfl
  | ty _ => cases r; rfl
theorem RelV.inj {x y : V} {u : Value} (r : RelV x u) (q : RelV y u) : x = y := Option.some.inj (r.abs.symm.trans q.abs)
theorem Vals.inj : ∀ {xs ys : List V} {us : List Value}, Vals xs us → Vals ys us → xs = ys
  | _, _, _, .nil, .nil => rfl
  | _, _, _, .cons r t, .cons r' t' => by rw [r.inj r', Vals.inj t t']
section
variable {X : Cx} {pins : List (Addr × Obj)} {σ : St} {H : Hp} {s : Shared} {a : Addr} {xs ys : List V}
theorem SqL.of {K : PySem.W.Frag} (h : H a = some (.lst xs)) : SqL K H a xs := .inl (.inl h)
theorem SqT.of {K : PySem.W.Frag} (h : H a = some (.tup xs)) : SqT K H a xs := .inl (.inl h)
theorem Inv.list (I : Inv X pins σ H s) (h : SqL X.K H a xs) : ∃ its : List Value, Vals xs its ∧ PlainL s.heap a its.toArray ∧ xs.length ≤ sizeLine := by
  rcases h with h | ⟨o, its, n, hk, hc, hd, hs, hz, r⟩
  · obtain ⟨z, its, n, r, e⟩ := h.ok I.hok
    exact ⟨its, r, ⟨_, n, e, rfl, rfl, rfl⟩, z⟩
  · refine ⟨its.toList, r, ⟨o, n, I.kIn a o hk, hc, hd, by simpa using hs⟩, ?_⟩
    have e := r.length
    simp only [Array.length_toList] at e
    omega
theorem Inv.tuple (I : Inv X pins σ H s) (h : SqT X.K H a xs) : ∃ its : List Value, Vals xs its ∧ IsTup s.heap a its.toArray ∧ xs.length ≤ sizeLine := by
  rcases h with h | ⟨o, its, n, hk, hc, hs, hz, r⟩
  · obtain ⟨z, its, r, p⟩ := h.ok I.hok
    exact ⟨its, r, p, z⟩
  · refine ⟨its.toList, r, ⟨o, I.kIn a o hk, hc, n, by simpa using hs⟩, ?_⟩
    have e := r.length
    simp only [Array.length_toList] at e
    omega
theorem Inv.list_inj (I : Inv X pins σ H s) (h : SqL X.K H a xs) (h' : SqL X.K H a ys) : xs = ys := by
  obtain ⟨its, r, ⟨o, n, e, _, _, d⟩, _⟩ := I.list h
  obtain ⟨its', r', ⟨o', n', e', _, _, d'⟩, _⟩ := I.list h'
  rw [e] at e'; cases e'
  rw [d] at d'
  injection d' with d1 _
  have : its = its' := by simpa using congrArg Array.toList d1
  subst this
  exact r.inj r'
end
abbrev Cx.wish (X : Cx) (E : Value → Shared → Prop) : Cx := { X with xe := E }
abbrev Cx.nox (X : Cx) : Cx := X.wish fun _ _ => False
theorem Cx.Ok.wish {X : Cx} (ok : X.Ok) (E : Value → Shared → Prop) : (X.wish E).Ok :=
  ⟨ok.mod, ok.kind, ok.glob, ok.blt, ok.above, ok.inj, ok.has, ok.cab, ok.hd, ok.frames, ok.stk, ok.exf, ok.bs, ok.bsz, ok.noex, ok.exfs, ok.funs, ok.frf⟩
theorem Cx.Ok.unwish {X : Cx} {E : Value → Shared → Prop} (ok : (X.wish E).Ok) : X.Ok :=
  ⟨ok.mod, ok.kind, ok.glob, ok.blt, ok.above, ok.inj, ok.has, ok.cab, ok.hd, ok.frames, ok.stk, ok.exf, ok.bs, ok.bsz, ok.noex, ok.exfs, ok.funs, ok.frf⟩
section
variable {X : Cx} {pins : List (Addr × Obj)} {σ : St} {H : Hp} {s : Shared} {E : Value → Shared → Prop}
theorem Inv.wish (I : Inv X pins σ H s) (E : Value → Shared → Prop) : Inv (X.wish E) pins σ H s := ⟨I.ok.wish E, I.os, I.bare, I.base, I.loc, I.cell, I.free, I.freeC, I.pin, I.hok, I.len⟩
theorem Inv.unwish (I : Inv (X.wish E) pins σ H s) : Inv X pins σ H s := ⟨I.ok.unwish, I.os, I.bare, I.base, I.loc, I.cell, I.free, I.freeC, I.pin, I.hok, I.len⟩
theorem SP.unwish {D : Ends} {f : Flow} {s' : Shared} (h : SP (X.wish E) pins D f s') : SP X pins D f s' := by
  cases f with
  | next => obtain ⟨σ', H', I, q⟩ := h; exact ⟨σ', H', I.unwish, q⟩
  | brk => obtain ⟨σ', H', I, q⟩ := h; exact ⟨σ', H', I.unwish, q⟩
  | cont => obtain ⟨σ', H', I, q⟩ := h; exact ⟨σ', H', I.unwish, q⟩
  | ret u => obtain ⟨v, σ', H', I, r, q⟩ := h; exact ⟨v, σ', H', I.unwish, r, q⟩
theorem PE.nox {e : Expr} {t : TE} (h : PE X.nox e t) : PE X e t := fun pins s σ H Q I hw =>
  wpAny_mono (h pins s σ H Q (I.wish _) hw) (fun _ _ ⟨v, H', I', r, q⟩ => ⟨v, H', I'.unwish, r, q⟩) fun _ _ z => False.elim z
theorem PT.nox {e : Expr} {t : TT} (h : PT X.nox e t) : PT X e t := fun pins s σ H Q I hw =>
  wpAny_mono (h pins s σ H Q (I.wish _) hw) (fun _ _ ⟨H', I', q⟩ => ⟨H', I'.unwish, q⟩) fun _ _ z => False.elim z
theorem PSs.nox {st : List Stmt} {t : TS} (h : PSs X.nox st t) : PSs X st t := fun pins s σ H D I hw =>
  wpAny_mono (h pins s σ H D (I.wish _) hw) (fun _ _ q => q.unwish) fun _ _ z => False.elim z
end
section
variable {X : Cx} {st : Stmt} {rest : List Stmt} {t u : TS} {e : Expr} {te : TE} {pos : Pos}
def tNext : TS := fun D σ H => D.nx σ H
def tSeq (t u : TS) : TS := fun D σ H => t { D with nx := u D } σ H
theorem pss_nil : PSs X [] tNext := fun _ _ σ H _ I h => wpAny_execs_nil ⟨σ, H, I, h⟩
theorem pss_cons (h1 : PS X st t) (h2 : PSs X rest u) : PSs X (st :: rest) (tSeq t u) := by
  intro pins s σ H D I h
  refine wpAny_execs_cons (thn (h1 pins s σ H { D with nx := u D } I h) fun f s1 q => ?_)
  cases f with
  | next =>
    obtain ⟨σ', H', I', q⟩ := q
    exact h2 pins s1 σ' H' D I' q
  | ret v => exact q
  | brk => exact q
  | cont => exact q
theorem pss_one (h1 : PS X st t) : PSs X [st] t := by
  intro pins s σ H D I h
  refine wpAny_execs_cons (thn (h1 pins s σ H D I h) fun f s1 q => ?_)
  cases f with
  | next => exact wpAny_execs_nil q
  | ret v => exact q
  | brk => exact q
  | cont => exact q
theorem Inv.quiet {pins : List (Addr × Obj)} {σ : St} {H : Hp} {s : Shared} (I : Inv X pins σ H s) : interactive X.env = false := by simp [interactive, I.ok.kind]
def tDrop (te : TE) : TS := fun D σ H => te σ H fun _ H1 => D.nx σ H1
theorem ps_expr (he : PE X e te) (hs : swapsWith e none pos.line X.env = pure false := by rfl) : PS X (.Expr e pos) (tDrop te) := by
  intro pins s σ H D I h
  exact wpAny_Expr_any (thn (he pins s σ H _ I h) fun v s1 ⟨x, H1, I1, r1, q1⟩ => ⟨σ, H1, I1, q1⟩) I.quiet hs
def tRet (te : TE) : TS := fun D σ H => te σ H D.rt
theorem ps_ret (he : PE X e te) : PS X (.Return (some e) pos) (tRet te) := by
  intro pins s σ H D I h
  exact wpAny_Return_some (thn (he pins s σ H _ I h) fun v s1 ⟨x, H1, I1, r1, q1⟩ => ⟨x, σ, H1, I1, r1, q1⟩)
def tRetN : TS := fun D _ H => D.rt .non H
def tIfS (c : TT) (t u : TS) : TS := fun D σ H => c σ H fun b H1 => if b = true then t D σ H1 else u D σ H1
theorem ps_if {c : Expr} {a b : List Stmt} {tc : TT} (hc : PT X c tc) (ha : PSs X a t) (hb : PSs X b u) : PS X (.If c a b pos) (tIfS tc t u) := by
  intro pins s σ H D I h
  refine wpAny_If (thn (hc pins s σ H _ I h) fun d s1 ⟨H1, I1, q1⟩ => ?_)
  cases d with
  | true => exact ha pins s1 σ H1 D I1 q1
  | false => exact hb pins s1 σ H1 D I1 q1
def tNever : TS := fun _ _ _ => False
theorem ps_never : PS X st tNever := fun _ _ _ _ _ _ h => h.elim
end
abbrev TG := V → St → Hp → (St → Hp → Prop) → Prop
abbrev TGs := List V → St → Hp → (St → Hp → Prop) → Prop
def PG (X : Cx) (target : Expr) (t : TG) : Prop :=
  ∀ (pins : List (Addr × Obj)) (s : Shared) (σ : St) (H : Hp) (v : V) (u : Value) (Q : St → Hp → Prop), Inv X pins σ H s → RelV v u → t v σ H Q →
    wpAny (model X.prog X.w) X.A (assign target X.env u) (fun _ s' => ∃ σ' H', Inv X pins σ' H' s' ∧ Q σ' H') X.xe s
def PGs (X : Cx) (ts : List Expr) (t : TGs) : Prop :=
  ∀ (pins : List (Addr × Obj)) (s : Shared) (σ : St) (H : Hp) (vs : List V) (us : List Value) (Q : St → Hp → Prop), Inv X pins σ H s → Vals vs us → t vs σ H Q →
    wpAny (model X.prog X.w) X.A (assignInOrder ((assignEach ts X.env).map (·.2)) us) (fun _ s' => ∃ σ' H', Inv X pins σ' H' s' ∧ Q σ' H') X.xe s
abbrev TSet := V → V → V → Hp → (Hp → Prop) → Prop
section
variable {X : Cx} {pos : Pos}
def gName (i : Nat) : TG := fun v σ H Q => Q (σ.set i (some v)) H
theorem pg_name {i : Nat} {x : Str} (hN : X.N.Nodup) (hi : X.N[i]? = some x) (hx : Loc X.env.scope x) (hf : X.fn x = true ∨ X.env.scope.names.lookup x = some .local := by first | exact .inl rfl | exact .inr rfl | assumption) : PG X (.Name x pos) (gName i) := by
  intro pins s σ H v u Q I r h
  exact wpAny_assign_Name (store_ok I hN hi hx r (fun s' I' => ⟨_, H, I', h⟩) hf)
def gNil : TGs := fun vs σ H Q => vs = [] ∧ Q σ H
def gCons (t : TG) (u : TGs) : TGs := fun vs σ H Q => ∃ v r, vs = v :: r ∧ t v σ H fun σ' H' => u r σ' H' Q
theorem pgs_nil : PGs X [] gNil := by
  intro pins s σ H vs us Q I r h
  obtain ⟨e, h⟩ := h
  subst e
  cases r
  exact assignInOrder_nil ⟨σ, H, I, h⟩
theorem pgs_cons {e : Expr} {es : List Expr} {t : TG} {u : TGs} (h1 : PG X e t) (h2 : PGs X es u)
    (hs : (assignEach (e :: es) X.env).map (·.2) = assign e X.env :: (assignEach es X.env).map (·.2) := by rfl) : PGs X (e :: es) (gCons t u) := by
  intro pins s σ H vs us Q I r h
  obtain ⟨v, vr, e1, h⟩ := h
  subst e1
  cases r with
  | cons r rr =>
    rw [hs]
    refine assignInOrder_cons (thn (h1 pins s σ H _ _ _ I r h) fun _ s1 ⟨σ1, H1, I1, q1⟩ => ?_)
    exact h2 pins s1 σ1 H1 _ _ Q I1 rr q1
def gTup (K : PySem.W.Frag) (n : Nat) (t : TGs) : TG := fun v σ H Q => ∃ a xs, v = .ref a ∧ SqT K H a xs ∧ xs.length = n ∧ t xs σ H Q
theorem pg_tup {es : List Expr} {k : Nat} {t : TGs} {n : Nat} (hc : X.calm = true) (h : PGs X es t)
    (hn : (assignEach es X.env).length = n := by rfl) (hst : (assignEach es X.env).findIdx? (·.1) = none := by rfl) : PG X (.Tuple es k pos) (gTup X.K n t) := by
  intro pins s σ H v u Q I r hw
  obtain ⟨a, xs, e1, hq, hl, hw⟩ := hw
  subst e1
  cases r
  obtain ⟨its, rv, ht, hz⟩ := I.tuple hq
  refine assign_Tuple_tuple (I.ok.hd hc) ht (by simp [hn, ← hl, rv.length]) hst fun h' hx => ?_
  have I1 : Inv X pins σ H { s with heap := h' } := I.kept (t' := s.toks) fun b o e => hx b o (Nat.ne_of_lt (Heap.lt_size e)) e
  exact h pins _ σ H xs _ Q I1 (by simpa using rv) hw
def gSub (to ti : TE) (t : TSet) : TG := fun v σ H Q => to σ H fun o H1 => ti σ H1 fun i H2 => t o i v H2 fun H3 => Q σ H3
def tAsg (te : TE) (g : TG) : TS := fun D σ H => te σ H fun x H1 => g x σ H1 D.nx
theorem ps_set {i : Nat} {x : Str} {e : Expr} {te : TE} {pos' : Pos} (hN : X.N.Nodup) (hi : X.N[i]? = some x) (hx : Loc X.env.scope x) (he : PE X e te) (hs : swapsWith e (some (.Name x pos')) pos.line X.env = pure false := by rfl) (hf : X.fn x = true ∨ X.env.scope.names.lookup x = some .local := by first | exact .inl rfl | exact .inr rfl | assumption) :
    PS X (.Assign [.Name x pos'] e pos) (tAsg te (gName i)) := by
  intro pins s σ H D I h
  refine wpAny_Assign_Name (thn (he pins s σ H _ I h) fun v s1 ⟨y, H1, I1, r1, q1⟩ => ?_) hs
  exact store_ok I1 hN hi hx r1 (fun s2 I2 => ⟨_, H1, I2, q1⟩) hf
def tPar (i j : Nat) (ta : TA) : TS := fun D σ H => ta σ H fun vs H1 => ∃ v w, vs = [v, w] ∧ D.nx ((σ.set i (some v)).set j (some w)) H1
end
section
variable {X : Cx} {pos : Pos}
def tWhile (c : TT) (tb : TS) : TS := fun D σ H => ∃ W : Nat → St → Hp → Prop, (∃ m, W m σ H) ∧ ∀ m σ H, W m σ H →
  c σ H fun b H1 => if b = true then ∃ N : St → Hp → Prop, (∀ σ' H', N σ' H' → ∃ m', m' < m ∧ W m' σ' H') ∧ tb { D with nx := N, ct := N, bk := D.nx } σ H1 else D.nx σ H1
theorem ps_while {c : Expr} {body : List Stmt} {tc : TT} {tb : TS} (hp : PassesOwn (model X.prog X.w) X.A X.env X.xe) (hc : PT X c tc) (hb : PSs X body tb) : PS X (.While c body [] pos) (tWhile tc tb) := by
  intro pins s σ H D I h
  obtain ⟨W, ⟨m0, w0⟩, turn⟩ := h
  refine wpAny_While (codeAny_whileLoop (fun n s' => ∃ σ' H', Inv X pins σ' H' s' ∧ W n σ' H') ?_ m0 ⟨σ, H, I, w0⟩)
  rintro n s1 ⟨σ1, H1, I1, w1⟩
  refine wpAny_passesOwn hp (thn (hc pins s1 σ1 H1 _ I1 (turn n σ1 H1 w1)) fun b s2 ⟨H2, I2, q2⟩ => ?_)
  cases b with
  | true =>
    obtain ⟨N, hN, q2⟩ := q2
    rw [if_pos rfl]
    refine wpAny_passesOwn hp (thn (hb pins s2 σ1 H2 _ I2 q2) fun f s3 q3 => ?_)
    cases f with
    | next =>
      obtain ⟨σ3, H3, I3, n3⟩ := q3
      obtain ⟨m', hm, w3⟩ := hN σ3 H3 n3
      exact ⟨m', hm, σ3, H3, I3, w3⟩
    | cont =>
      obtain ⟨σ3, H3, I3, n3⟩ := q3
      obtain ⟨m', hm, w3⟩ := hN σ3 H3 n3
      exact ⟨m', hm, σ3, H3, I3, w3⟩
    | brk => exact q3
    | ret v => exact q3
  | false =>
    rw [if_neg Bool.false_ne_true]
    exact wpAny_execs_nil ⟨σ1, H2, I2, q2⟩
end
structure It where
  go : Nat → Hp → Prop
  yld : Nat → Hp → V → Hp → Prop
  stop : Nat → Hp → Prop
def FpOk (X : Cx) (pins : List (Addr × Obj)) (H : Hp) (b : Addr) : Prop :=
  H b = none ∧ b ≠ X.env.locals ∧ b ∉ X.fs ∧ (b ∈ X.ex ∨ X.s₀.heap.objs.size ≤ b) ∧ (∀ x c, X.env.cells.lookup x = some c → c ≠ b) ∧ ∀ p ∈ X.pn ++ pins, p.1 ≠ b
theorem Inv.fpOk {X : Cx} {pins : List (Addr × Obj)} {σ : St} {H H' : Hp} {s : Shared} {b : Addr} (I : Inv X pins σ H s) (hb : s.heap.objs.size ≤ b) (hn : H' b = none) : FpOk X pins H' b := by
  refine ⟨hn, Nat.ne_of_gt (Nat.lt_of_lt_of_le I.lt hb), I.nofs hb, .inr (Nat.le_trans I.sz hb), fun x c e z => ?_, fun p hp z => ?_⟩
  · obtain ⟨v, q⟩ := I.cell x c e
    exact absurd (Nat.lt_of_lt_of_le q.lt (by rw [z]; exact hb)) (Nat.lt_irrefl _)
  · exact absurd (Nat.lt_of_lt_of_le (Heap.lt_size (I.pin p hp).1) (by rw [z]; exact hb)) (Nat.lt_irrefl _)
structure Turn (P : Program) (w : World) (K : PySem.W.Frag) (tg : Expr) (J : It) (fp : List Addr) (it : Addr) (tn : Nat → Heap → Prop) : Prop where
  mem : it ∈ fp
  obj : ∀ i h, tn i h → ∀ b ∈ fp, ∃ o, h.get? b = some o ∧ ∀ v, o.data ≠ .cell v
  keep : ∀ i h h', tn i h → (∀ b ∈ fp, ∀ o, h.get? b = some o → h'.get? b = some o) → tn i h'
  item : ∀ (X : Cx), X.prog = P → X.w = w → X.K = K → X.calm = true → ∀ (i : Nat) (pins : List (Addr × Obj)) (s : Shared) (σ : St) (H : Hp) (E : Value → Shared → Prop), Inv X pins σ H s → (∀ b ∈ fp, FpOk X pins H b) → tn i s.heap → J.go i H →
    wpAny (model P w) X.A (pyNext (.ref it)) (fun r s1 => ∃ u, r = some u ∧
      wpAny (model P w) X.A (letOwnedTupleGo tg (.ref it) u) (fun _ s2 => ∃ x H', Inv X pins σ H' s2 ∧ RelV x u ∧ J.yld i H x H' ∧ tn (i + 1) s2.heap ∧ ∀ b ∈ fp, H' b = none) E s1) E s
  done : ∀ (X : Cx), X.prog = P → X.w = w → X.K = K → X.calm = true → ∀ (i : Nat) (pins : List (Addr × Obj)) (s : Shared) (σ : St) (H : Hp) (E : Value → Shared → Prop), Inv X pins σ H s → (∀ b ∈ fp, FpOk X pins H b) → tn i s.heap → J.stop i H →
    wpAny (model P w) X.A (pyNext (.ref it)) (fun r s1 => r = none ∧ Inv X pins σ H s1) E s
  self : ∀ (A : Around) (i : Nat) (s : Shared) (Q : Value → Shared → Prop) (E : Value → Shared → Prop), tn i s.heap → Q (.ref it) s → wpAny (model P w) A (pyIter (.ref it)) Q E s
abbrev TI := St → Hp → (It → Hp → Prop) → Prop
def PIE (X : Cx) (pins : List (Addr × Obj)) (σ : St) (tg : Expr) (R : It → Hp → Prop) (itv : Value) (s2 : Shared) : Prop :=
  ∃ (it : Addr) (fp : List Addr) (tn : Nat → Heap → Prop) (J : It) (H' : Hp), itv = .ref it ∧ Inv X pins σ H' s2 ∧ Turn X.prog X.w X.K tg J fp it tn ∧ tn 0 s2.heap ∧ (∀ b ∈ fp, FpOk X pins H' b) ∧ R J H'
def PI (X : Cx) (tg iter : Expr) (wi : TI) : Prop :=
  ∀ (pins : List (Addr × Obj)) (s : Shared) (σ : St) (H : Hp) (R : It → Hp → Prop), Inv X pins σ H s → wi σ H R →
    wpAny (model X.prog X.w) X.A (eval iter X.env) (fun v s1 => wpAny (model X.prog X.w) X.A (pyIter v) (PIE X pins σ tg R) X.xe s1) X.xe s
theorem go_of {M : Model} {A : Around} {E : Value → Shared → Prop} {s : Shared} {tg : Expr} {it : Addr} {u : Value} {o : Obj} {n : String} {vs : Array Value} {Q : Unit → Shared → Prop} (ho : s.heap.get? it = some o) (hc : o.cls = .type n) (hd : o.data = .fields vs)
    (hn : ["enumerate", "zip", "dict_itemiterator", "dict_reverseitemiterator", "odict_iterator", "itertools.zip_longest", "itertools.pairwise"].contains n = false) (hQ : Q () s) : wpAny M A (letOwnedTupleGo tg (.ref it) u) Q E s := by
  unfold letOwnedTupleGo
  cases tg <;> first
    | exact wpAny_pure hQ
    | (cases u <;> first
        | exact wpAny_pure hQ
        | (refine wpAny_bind (wpAny_load ho ?_)
           rw [hc, hd]
           show wpAny M A (if (["enumerate", "zip", "dict_itemiterator", "dict_reverseitemiterator", "odict_iterator", "itertools.zip_longest", "itertools.pairwise"].contains n && vs[0]? == some (rawInt _)) = true then _ else _) Q E s
           rw [if_neg (by intro h; rw [hn, Bool.false_and] at h; cases h)]
           exact wpAny_pure hQ))
def Itl (K : PySem.W.Frag) (a : Addr) : It :=
  ⟨fun i H => ∃ xs x, SqL K H a xs ∧ xs[i]? = some x, fun i H x H' => H' = H ∧ ∀ xs, SqL K H a xs → xs[i]? = some x, fun i H => ∃ xs, SqL K H a xs ∧ xs.length ≤ i⟩
def Itr (lo : Int) (n : Nat) : It := ⟨fun i _ => i < n, fun i H x H' => H' = H ∧ x = .int (lo + i), fun i _ => n ≤ i⟩
theorem turn_list {P : Program} {w : World} {K : PySem.W.Frag} {tg : Expr} (a it : Addr) : Turn P w K tg (Itl K a) [it] it (fun i h => h.IsListIter it a i) where
  mem := by simp
  obj := fun i h st b hb => by
    have e : b = it := by simpa using hb
    subst e
    obtain ⟨o, e, c, d⟩ := st
    exact ⟨o, e, fun v z => by rw [d] at z; cases z⟩
  keep := fun i h h' st k => st.at fun o e => k it (by simp) o e
  item := by
    intro X hP hw hK hc i pins s σ H E I hf st hg
    subst hP hw hK
    obtain ⟨xs, x, hq, hx⟩ := hg
    obtain ⟨its, rv, p, hz⟩ := I.list hq
    obtain ⟨u, hu, ru⟩ := rv.get hx
    obtain ⟨f0, f1, f2, f3, f4, f5⟩ := hf it (by simp)
    refine wpAny_pyNext_list_item st p.isList (x := u) (by simpa using hu) fun h' st' sb => ?_
    have I1 : Inv X pins σ H { s with heap := h' } := I.turned (t' := s.toks) (fun b o hb e => (sb.2 b hb).trans e) f0 f1 f3 f4 f5
    obtain ⟨o, e, c, d⟩ := id st'
    exact ⟨u, rfl, go_of (s := { s with heap := h' }) e c d (by decide) ⟨x, H, I1, ru, ⟨rfl, fun ys hy => by rw [I.list_inj hy hq]; exact hx⟩, st', fun b hb => (hf b hb).1⟩⟩
  done := by
    intro X hP hw hK hc i pins s σ H E I hf st hg
    subst hP hw hK
    obtain ⟨xs, hq, hx⟩ := hg
    obtain ⟨its, rv, p, hz⟩ := I.list hq
    obtain ⟨f0, f1, f2, f3, f4, f5⟩ := hf it (by simp)
    have hl := rv.length
    exact wpAny_pyNext_list_end (I.ok.hd hc) st p.isList (by simp; omega) fun h' eb => ⟨rfl, I.turned (t' := s.toks) (fun b o hb e => eb b o hb e) f0 f1 f3 f4 f5⟩
  self := fun _ _ _ _ _ st h => wpAny_pyIter_listiter st h
theorem turn_range {P : Program} {w : World} {K : PySem.W.Frag} {tg : Expr} (it : Addr) (lo : Int) (n : Nat) : Turn P w K tg (Itr lo n) [it] it (fun i h => IsRangeIter h it (lo + (i : Nat) * 1) ((n : Int) - (i : Nat)) 1) where
  mem := by simp
  obj := fun i h st b hb => by
    have e : b = it := by simpa using hb
    subst e
    exact ⟨_, st, fun v z => by
      have z' : Data.fields _ = Data.cell v := z
      cases z'⟩
  keep := fun i h h' st k => k it (by simp) _ st
  item := by
    intro X hP hw hK hc i pins s σ H E I hf st hg
    subst hP hw hK
    obtain ⟨f0, f1, f2, f3, f4, f5⟩ := hf it (by simp)
    have W := Walks.range (prog := X.prog) (w := X.w) (I.ok.hd hc) it lo 1 n
    refine W.item i s _ _ hg st fun v h' tk hv st' kk => ?_
    obtain ⟨t, rfl⟩ := hv
    have I1 : Inv X pins σ H { s with heap := h', toks := tk } := I.turned (fun b o hb e => kk b o (by simpa using hb) e) f0 f1 f3 f4 f5
    refine ⟨_, rfl, go_of (s := { s with heap := h', toks := tk }) (n := "range_iterator") st' rfl rfl (by decide) ⟨.int (lo + i), H, I1, ⟨t, ?_⟩, ⟨rfl, rfl⟩, st', fun b hb => (hf b hb).1⟩⟩
    rw [Int.mul_one]
  done := by
    intro X hP hw hK hc i pins s σ H E I hf st hg
    subst hP hw hK
    obtain ⟨f0, f1, f2, f3, f4, f5⟩ := hf it (by simp)
    exact wpAny_pyNext_range_end (I.ok.hd hc) st (by have : n ≤ i := hg; omega) fun h' eb => ⟨rfl, I.turned (t' := s.toks) (fun b o hb e => eb b o hb e) f0 f1 f3 f4 f5⟩
  self := fun _ _ _ _ _ st h => wpAny_pyIter_rangeiter st h
end L2
namespace L2
open PySem PySem.Spec PyProof.Rows
section
variable {X : Cx} {tg : Expr}
def iList (K : PySem.W.Frag) (tl : TE) : TI := fun σ H R => tl σ H fun x H1 => ∃ a, x = .ref a ∧ (∃ xs, SqL K H1 a xs) ∧ R (Itl K a) H1
theorem pi_list {l : Expr} {tl : TE} (hl : PE X l tl) : PI X tg l (iList X.K tl) := by
  intro pins s σ H R I h
  refine thn (hl pins s σ H _ I h) fun v s1 ⟨x, H1, I1, r1, q1⟩ => ?_
  obtain ⟨a, e, ⟨xs, hq⟩, q⟩ := q1
  subst e
  cases r1
  obtain ⟨its, rv, p, hz⟩ := I1.list hq
  refine wpAny_pyIter_list p.isList ?_
  refine ⟨s1.heap.objs.size, [s1.heap.objs.size], _, _, H1, rfl, I1.kept (t' := s1.toks) fun b o e => Heap.get?_push_of_some _ e, turn_list a _, ⟨_, Heap.get?_push_size _ rfl, rfl, rfl⟩, fun b hb => ?_, q⟩
  have e : b = s1.heap.objs.size := by simpa using hb
  subst e
  exact I1.fpOk (Nat.le_refl _) (I1.hok.fresh (Nat.le_refl _))
theorem range_it {pins : List (Addr × Obj)} {σ : St} {H : Hp} {s : Shared} {R : It → Hp → Prop} {E : Value → Shared → Prop} {lo hi : Int} {t u v : Tok} {tk : Nat} (I : Inv X pins σ H s) (h1 : -(2 ^ 62) ≤ lo) (h2 : lo < 2 ^ 62) (h3 : -(2 ^ 62) ≤ hi) (h4 : hi < 2 ^ 62)
    (q : R (Itr lo (hi - lo).toNat) H) : wpAny (model X.prog X.w) X.A (pyIter (.ref s.heap.objs.size)) (PIE X pins σ tg R) E { s with heap := s.heap.push { cls := .type "range", data := .fields #[.int lo t, .int hi u, .int 1 v] }, toks := tk } := by
  refine wpAny_pyIter_range (IsRange.new ..) (small_one h1 h2 h3 h4) ?_
  have I1 : Inv X pins σ H { s with heap := s.heap.push { cls := .type "range", data := .fields #[.int lo t, .int hi u, .int 1 v] }, toks := tk } := I.kept fun b o e => Heap.get?_push_of_some _ e
  refine ⟨(s.heap.push { cls := .type "range", data := .fields #[.int lo t, .int hi u, .int 1 v] }).objs.size, [(s.heap.push { cls := .type "range", data := .fields #[.int lo t, .int hi u, .int 1 v] }).objs.size], _, _, H, rfl,
    I1.kept (t' := tk) fun b o e => Heap.get?_push_of_some _ e, turn_range _ lo (hi - lo).toNat, ?_, fun b hb => ?_, q⟩
  · have e1 : lo + ((0 : Nat) : Int) * 1 = lo := by simp
    have e2 : (((hi - lo).toNat : Nat) : Int) - ((0 : Nat) : Int) = Builtin.Range.rangeSize lo hi 1 := by rw [rangeSize_one]; split <;> omega
    show IsRangeIter _ _ (lo + ((0 : Nat) : Int) * 1) ((((hi - lo).toNat : Nat) : Int) - ((0 : Nat) : Int)) 1
    rw [e1, e2]
    exact Heap.get?_push_size _ rfl
  · have e : b = (s.heap.push { cls := .type "range", data := .fields #[.int lo t, .int hi u, .int 1 v] }).objs.size := by simpa using hb
    subst e
    exact I1.fpOk (Nat.le_refl _) (I1.hok.fresh (Nat.le_refl _))
def iRng1 (ta : TA) : TI := fun σ H R => ta σ H fun vs H1 => ∃ j : Int, vs = [.int j] ∧ -(2 ^ 62) ≤ j ∧ j < 2 ^ 62 ∧ R (Itr 0 j.toNat) H1
theorem pi_range1 {a : Expr} {ta : TA} {p pos : Pos} (hg : Gl X "range") (hm : X.mg "range" = none) (ha : PA X [a] ta) (hs : starEach [a] X.env = [(false, eval a X.env)] := by rfl) : PI X tg (.Call (.Name "range" p) [a] [] pos) (iRng1 ta) := by
  intro pins s σ H R I h
  refine Call_ (ld_blt I hg hm boot_range (PyProof.Rows.callWith_type1 (thn (ha pos pins s σ H _ I h) fun us s1 ⟨vs, H1, I1, r1, q1⟩ => ?_) hs rfl))
  obtain ⟨j, e, q1, q2, q⟩ := q1
  subst e
  cases r1 with
  | cons r rr =>
    cases rr
    obtain ⟨t, rfl⟩ := r
    exact call_range_1 (range_it I1 (by omega) (by omega) q1 q2 (by simpa using q))
def tFor (wi : TI) (g : TG) (tb : TS) : TS := fun D σ H => wi σ H fun J H1 => ∃ W : Nat → Nat → St → Hp → Prop, (∃ m, W 0 m σ H1) ∧ ∀ i m σ H, W i m σ H →
  (J.stop i H ∧ D.nx σ H) ∨ (J.go i H ∧ ∃ N : St → Hp → Prop, (∀ σ' H', N σ' H' → ∃ m', m' < m ∧ W (i + 1) m' σ' H') ∧ ∀ x H', J.yld i H x H' → g x σ H' fun σ2 H2 => tb { D with nx := N, ct := N, bk := D.nx } σ2 H2)
def pinsAt (fp : List Addr) (h : Heap) : List (Addr × Obj) := fp.filterMap fun b => (h.get? b).map fun o => (b, o)
theorem mem_pinsAt {fp : List Addr} {h : Heap} {b : Addr} {o : Obj} (hb : b ∈ fp) (e : h.get? b = some o) : (b, o) ∈ pinsAt fp h := List.mem_filterMap.mpr ⟨b, hb, by rw [e]; rfl⟩
theorem of_pinsAt {fp : List Addr} {h : Heap} {p : Addr × Obj} (hp : p ∈ pinsAt fp h) : p.1 ∈ fp ∧ h.get? p.1 = some p.2 := by
  obtain ⟨b, hb, e⟩ := List.mem_filterMap.mp hp
  cases q : h.get? b with
  | none => rw [q] at e; cases e
  | some o =>
    rw [q] at e
    have e' : (b, o) = p := Option.some.inj e
    subst e'
    exact ⟨hb, q⟩
theorem Inv.pinned {pins : List (Addr × Obj)} {σ : St} {H : Hp} {s : Shared} {fp : List Addr} (I : Inv X pins σ H s) (hf : ∀ b ∈ fp, FpOk X pins H b) (ho : ∀ b ∈ fp, ∃ o, s.heap.get? b = some o ∧ ∀ v, o.data ≠ .cell v) : Inv X (pins ++ pinsAt fp s.heap) σ H s :=
  I.pins_of fun p hp => (List.mem_append.mp hp).elim (fun z => I.pin p (List.mem_append_right _ z)) fun z => by
    obtain ⟨hb, e⟩ := of_pinsAt z
    obtain ⟨f0, f1, f2, _⟩ := hf p.1 hb
    obtain ⟨o, e', d⟩ := ho p.1 hb
    rw [e] at e'; cases e'
    exact ⟨e, f0, f1, f2, d⟩
theorem Inv.unpinned {pins pl : List (Addr × Obj)} {σ : St} {H : Hp} {s : Shared} (I : Inv X (pins ++ pl) σ H s) : Inv X pins σ H s := I.pins_of fun p hp => I.pin p (List.mem_append_right _ (List.mem_append_left _ hp))
theorem ps_for {iter : Expr} {body : List Stmt} {wi : TI} {g : TG} {tb : TS} {pos : Pos} (hp : PassesOwn (model X.prog X.w) X.A X.env X.xe) (hc : X.calm = true) (hi : PI X tg iter wi) (hg : PG X tg g) (hb : PSs X body tb)
    (hs : ∀ x, foldedSetIterable iter X.env x = pure x := by intro _; rfl) : PS X (.For tg iter body [] pos) (tFor wi g tb) := by
  intro pins s σ H D I h
  refine wpAny_For (thn (hi pins s σ H _ I h) fun v s1 h1 => thn h1 fun itv s2 h2 => ?_) hs
  obtain ⟨it, fp, tn, J, H2, e, I2, T, st2, f2, W, ⟨m0, w0⟩, turn⟩ := h2
  subst e
  -- what stays true of the iterator's objects through the loop
  have stat : ∀ {H' : Hp}, (∀ b ∈ fp, H' b = none) → ∀ b ∈ fp, FpOk X pins H' b := fun hn b hb => ⟨hn b hb, (f2 b hb).2⟩
  refine codeAny_forLoop_any (fun n s' => ∃ i σ' H', Inv X pins σ' H' s' ∧ tn i s'.heap ∧ (∀ b ∈ fp, H' b = none) ∧ W i n σ' H') ?_ m0 ⟨0, σ, H2, I2, st2, fun b hb => (f2 b hb).1, w0⟩
  rintro n s3 ⟨i, σ3, H3, I3, st3, fr3, w3⟩
  rcases turn i n σ3 H3 w3 with ⟨stop, qn⟩ | ⟨go, N, hN, step⟩
  · refine wpAny_passesOwn hp (thn (T.done X rfl rfl rfl hc i pins s3 σ3 H3 X.xe I3 (stat fr3) st3 stop) fun r s4 ⟨hr, I4⟩ => ?_)
    subst hr
    exact wpAny_execs_nil ⟨σ3, H3, I4, qn⟩
  · refine wpAny_passesOwn hp (thn (T.item X rfl rfl rfl hc i pins s3 σ3 H3 X.xe I3 (stat fr3) st3 go) fun r s4 ⟨u, hr, h4⟩ => ?_)
    subst hr
    refine wpAny_passesOwn hp (thn h4 fun _ s5 ⟨x, H5, I5, r5, y5, st5, fr5⟩ => ?_)
    have I5' := I5.pinned (stat fr5) (T.obj _ _ st5)
    refine wpAny_passesOwn hp (thn (hg _ s5 σ3 H5 x u _ I5' r5 (step x H5 y5)) fun _ s6 ⟨σ6, H6, I6, q6⟩ => ?_)
    refine wpAny_passesOwn hp (thn (hb _ s6 σ6 H6 _ I6 q6) fun f s7 q7 => ?_)
    have again : ∀ {σ7 : St} {H7 : Hp}, Inv X (pins ++ pinsAt fp s5.heap) σ7 H7 s7 → N σ7 H7 → ∃ m, m < n ∧ ∃ i σ' H', Inv X pins σ' H' s7 ∧ tn i s7.heap ∧ (∀ b ∈ fp, H' b = none) ∧ W i m σ' H' := fun {σ7 H7} I7 n7 => by
      obtain ⟨m', hm, w7⟩ := hN σ7 H7 n7
      refine ⟨m', hm, i + 1, σ7, H7, I7.unpinned, T.keep _ _ _ st5 fun b hb o e => (I7.pin (b, o) (List.mem_append_right _ (List.mem_append_right _ (mem_pinsAt hb e)))).1, fun b hb => ?_, w7⟩
      obtain ⟨o, e, d⟩ := T.obj _ _ st5 b hb
      exact (I7.pin (b, o) (List.mem_append_right _ (List.mem_append_right _ (mem_pinsAt hb e)))).2.1
    cases f with
    | next => obtain ⟨σ7, H7, I7, n7⟩ := q7; exact again I7 n7
    | cont => obtain ⟨σ7, H7, I7, n7⟩ := q7; exact again I7 n7
    | brk => obtain ⟨σ7, H7, I7, q7⟩ := q7; exact ⟨σ7, H7, I7.unpinned, q7⟩
    | ret v => obtain ⟨x7, σ7, H7, I7, r7, q7⟩ := q7; exact ⟨x7, σ7, H7, I7.unpinned, r7, q7⟩
end
theorem for_list {K : PySem.W.Frag} {a : Addr} {xs : List V} {g : TG} {tb : TS} {D : Ends} {σ : St} {H : Hp} (Pv : Nat → St → Hp → Prop) (h0 : Pv 0 σ H) (hl : ∀ i σ H, i ≤ xs.length → Pv i σ H → SqL K H a xs)
    (hs : ∀ i x σ H, xs[i]? = some x → Pv i σ H → g x σ H fun σ2 H2 => tb { D with nx := Pv (i + 1), ct := Pv (i + 1), bk := D.nx } σ2 H2) (hd : ∀ σ H, Pv xs.length σ H → D.nx σ H) :
    ∃ W : Nat → Nat → St → Hp → Prop, (∃ m, W 0 m σ H) ∧ ∀ i m σ H, W i m σ H →
      ((Itl K a).stop i H ∧ D.nx σ H) ∨ ((Itl K a).go i H ∧ ∃ N : St → Hp → Prop, (∀ σ' H', N σ' H' → ∃ m', m' < m ∧ W (i + 1) m' σ' H') ∧ ∀ x H', (Itl K a).yld i H x H' → g x σ H' fun σ2 H2 => tb { D with nx := N, ct := N, bk := D.nx } σ2 H2) := by
  refine ⟨fun i m σ H => m = xs.length - i ∧ i ≤ xs.length ∧ Pv i σ H, ⟨xs.length, by simp, Nat.zero_le _, h0⟩, ?_⟩
  rintro i m σ H ⟨rfl, hi, p⟩
  have q := hl i σ H hi p
  by_cases hlt : i < xs.length
  · refine .inr ⟨⟨xs, xs[i], q, by simp [hlt]⟩, Pv (i + 1), fun σ' H' p' => ⟨xs.length - (i + 1), by omega, rfl, hlt, p'⟩, fun x H' y => ?_⟩
    obtain ⟨e, y⟩ := y
    subst e
    exact hs i x σ _ (y xs q) p
  · have e : i = xs.length := by omega
    subst e
    exact .inl ⟨⟨xs, q, Nat.le_refl _⟩, hd σ H p⟩
theorem for_range {lo : Int} {n : Nat} {g : TG} {tb : TS} {D : Ends} {σ : St} {H : Hp} (Pv : Nat → St → Hp → Prop) (h0 : Pv 0 σ H)
    (hs : ∀ i σ H, i < n → Pv i σ H → g (.int (lo + i)) σ H fun σ2 H2 => tb { D with nx := Pv (i + 1), ct := Pv (i + 1), bk := D.nx } σ2 H2) (hd : ∀ σ H, Pv n σ H → D.nx σ H) :
    ∃ W : Nat → Nat → St → Hp → Prop, (∃ m, W 0 m σ H) ∧ ∀ i m σ H, W i m σ H →
      ((Itr lo n).stop i H ∧ D.nx σ H) ∨ ((Itr lo n).go i H ∧ ∃ N : St → Hp → Prop, (∀ σ' H', N σ' H' → ∃ m', m' < m ∧ W (i + 1) m' σ' H') ∧ ∀ x H', (Itr lo n).yld i H x H' → g x σ H' fun σ2 H2 => tb { D with nx := N, ct := N, bk := D.nx } σ2 H2) := by
  refine ⟨fun i m σ H => m = n - i ∧ i ≤ n ∧ Pv i σ H, ⟨n, by simp, Nat.zero_le _, h0⟩, ?_⟩
  rintro i m σ H ⟨rfl, hi, p⟩
  by_cases hlt : i < n
  · refine .inr ⟨hlt, Pv (i + 1), fun σ' H' p' => ⟨n - (i + 1), by omega, rfl, hlt, p'⟩, fun x H' y => ?_⟩
    obtain ⟨e, y⟩ := y
    subst e y
    exact hs i σ _ hlt p
  · have e : i = n := by omega
    subst e
    exact .inl ⟨Nat.le_refl _, hd σ H p⟩
theorem while_by {c : TT} {tb : TS} {D : Ends} {σ : St} {H : Hp} (Pv : St → Hp → Prop) (μ : St → Hp → Nat) (h0 : Pv σ H)
    (hs : ∀ σ H, Pv σ H → c σ H fun b H1 => if b = true then tb { D with nx := fun σ' H' => Pv σ' H' ∧ μ σ' H' < μ σ H, ct := fun σ' H' => Pv σ' H' ∧ μ σ' H' < μ σ H, bk := D.nx } σ H1 else D.nx σ H1)
    (mono : ∀ σ H Q Q', (∀ b H1, Q b H1 → Q' b H1) → c σ H Q → c σ H Q') : tWhile c tb D σ H := by
  refine ⟨fun m σ H => m = μ σ H ∧ Pv σ H, ⟨_, rfl, h0⟩, ?_⟩
  rintro m σ H ⟨rfl, p⟩
  refine mono σ H _ _ (fun b H1 q => ?_) (hs σ H p)
  cases b with
  | true => exact ⟨_, fun σ' H' ⟨p', l⟩ => ⟨_, l, rfl, p'⟩, q⟩
  | false => exact q
end L2
namespace L2
open PySem PySem.Spec PyProof.Rows
abbrev R2 := V → V → Hp → VK → Prop
def OpR (X : Cx) (f : Value → Value → Sem Value) (r : R2) : Prop :=
  ∀ (pins : List (Addr × Obj)) (s : Shared) (σ : St) (H : Hp) (x y : V) (v u : Value) (Q : VK), Inv X pins σ H s → RelV x v → RelV y u → r x y H Q →
    wpAny (model X.prog X.w) X.A (f v u) (EP X pins σ Q) X.xe s
def UnR (X : Cx) (f : Value → Sem Value) (r : V → Hp → VK → Prop) : Prop :=
  ∀ (pins : List (Addr × Obj)) (s : Shared) (σ : St) (H : Hp) (x : V) (v : Value) (Q : VK), Inv X pins σ H s → RelV x v → r x H Q →
    wpAny (model X.prog X.w) X.A (f v) (EP X pins σ Q) X.xe s
def CallR (X : Cx) (f : Value) (r : List V → Hp → VK → Prop) : Prop :=
  ∀ (pins : List (Addr × Obj)) (s : Shared) (σ : St) (H : Hp) (xs : List V) (us : List Value) (Q : VK), Inv X pins σ H s → Vals xs us → r xs H Q →
    wpAny (model X.prog X.w) X.A (call f us) (EP X pins σ Q) X.xe s
def tOp (r : R2) (ta tb : TE) : TE := fun σ H Q => ta σ H fun x H1 => tb σ H1 fun y H2 => r x y H2 Q
def tUn (r : V → Hp → VK → Prop) (ta : TE) : TE := fun σ H Q => ta σ H fun x H1 => r x H1 Q
def rI (C : Int → Int → Prop) (g : Int → Int → V) : R2 := fun x y H Q => ∃ i j, x = .int i ∧ y = .int j ∧ C i j ∧ Q (g i j) H
def rI0 (g : Int → Int → V) : R2 := fun x y H Q => ∃ i j, x = .int i ∧ y = .int j ∧ Q (g i j) H
def rU (g : Int → V) : V → Hp → VK → Prop := fun x H Q => ∃ i, x = .int i ∧ Q (g i) H
section
variable {X : Cx} {a b c : Expr} {ta tb tc : TE} {pos : Pos}
theorem binT (ha : PE X a ta) (hb : PE X b tb) {pins : List (Addr × Obj)} {s : Shared} {σ : St} {H : Hp} {R : V → V → Hp → Prop} (I : Inv X pins σ H s)
    (h : ta σ H fun x H1 => tb σ H1 fun y H2 => R x y H2) {Q : Value → Shared → Prop} {f : Value → Value → Sem Value}
    (hf : ∀ v u s2 x y H2, Inv X pins σ H2 s2 → RelV x v → RelV y u → R x y H2 → wpAny (model X.prog X.w) X.A (f v u) Q X.xe s2) :
    wpAny (model X.prog X.w) X.A (eval a X.env) (fun v s₁ => wpAny (model X.prog X.w) X.A (eval b X.env) (fun u s₂ => wpAny (model X.prog X.w) X.A (f v u) Q X.xe s₂) X.xe s₁) X.xe s := by
  refine thn (ha pins s σ H _ I h) fun v s1 ⟨x, H1, I1, r1, q1⟩ => ?_
  refine thn (hb pins s1 σ H1 _ I1 q1) fun u s2 ⟨y, H2, I2, r2, q2⟩ => ?_
  exact hf v u s2 x y H2 I2 r1 r2 q2
theorem pe_op {op : Operator} {r : R2} (ho : OpR X (binaryOp op) r) (ha : PE X a ta) (hb : PE X b tb) : PE X (.BinOp a op b pos) (tOp r ta tb) := by
  intro pins s σ H Q I h
  exact wpAny_BinOp (binT ha hb I h fun v u s2 x y H2 I2 rx ry q => ho pins s2 σ H2 x y v u Q I2 rx ry q)
theorem pe_un {op : UnaryOp} {r : V → Hp → VK → Prop} (ho : UnR X (unaryOp op) r) (ha : PE X a ta) : PE X (.UnaryOp op a pos) (tUn r ta) := by
  intro pins s σ H Q I h
  exact UnaryOp_ (thn (ha pins s σ H _ I h) fun v s1 ⟨x, H1, I1, r1, q1⟩ => ho pins s1 σ H1 x v Q I1 r1 q1)
theorem opI {f : Value → Value → Sem Value} {C : Int → Int → Prop} {g : Int → Int → Int}
    (rule : ∀ (i j : Int) (t u : Tok) (s : Shared) (Q : Value → Shared → Prop) (E : Value → Shared → Prop), C i j → Q (.int (g i j) s.toks) { s with toks := s.toks + 1 } → wpAny (model X.prog X.w) X.A (f (.int i t) (.int j u)) Q E s) :
    OpR X f (rI C fun i j => .int (g i j)) := by
  intro pins s σ H x y v u Q I rx ry h
  obtain ⟨i, j, rfl, rfl, hc, q⟩ := h
  obtain ⟨t, rfl⟩ := rx
  obtain ⟨t', rfl⟩ := ry
  exact rule i j t t' s _ _ hc ⟨.int (g i j), H, I.tok _, ⟨_, rfl⟩, q⟩
theorem opI0 {f : Value → Value → Sem Value} {g : Int → Int → Int}
    (rule : ∀ (i j : Int) (t u : Tok) (s : Shared) (Q : Value → Shared → Prop) (E : Value → Shared → Prop), Q (.int (g i j) s.toks) { s with toks := s.toks + 1 } → wpAny (model X.prog X.w) X.A (f (.int i t) (.int j u)) Q E s) :
    OpR X f (rI0 fun i j => .int (g i j)) := by
  intro pins s σ H x y v u Q I rx ry h
  obtain ⟨i, j, rfl, rfl, q⟩ := h
  obtain ⟨t, rfl⟩ := rx
  obtain ⟨t', rfl⟩ := ry
  exact rule i j t t' s _ _ ⟨.int (g i j), H, I.tok _, ⟨_, rfl⟩, q⟩
theorem opB0 {f : Value → Value → Sem Value} {g : Int → Int → Bool}
    (rule : ∀ (i j : Int) (t u : Tok) (s : Shared) (Q : Value → Shared → Prop) (E : Value → Shared → Prop), Q (.bool (g i j)) s → wpAny (model X.prog X.w) X.A (f (.int i t) (.int j u)) Q E s) :
    OpR X f (rI0 fun i j => .bl (g i j)) := by
  intro pins s σ H x y v u Q I rx ry h
  obtain ⟨i, j, rfl, rfl, q⟩ := h
  obtain ⟨t, rfl⟩ := rx
  obtain ⟨t', rfl⟩ := ry
  exact rule i j t t' s _ _ ⟨.bl (g i j), H, I, rfl, q⟩
def CDiv (i j : Int) : Prop := 0 < j ∧ j < 1073741824
def CPow (i j : Int) : Prop := 0 ≤ j ∧ j ≤ 1000000 ∧ i.natAbs < 2 ^ 64
def CMul (i j : Int) : Prop := (-(2 ^ 64) < i ∧ i < 2 ^ 64) ∨ (-(2 ^ 64) < j ∧ j < 2 ^ 64)
theorem CMul.ok {i j : Int} (h : CMul i j) : IntMulOk i j := by
  rcases h with ⟨h1, h2⟩ | ⟨h1, h2⟩
  · exact .of_left (intBits_le_64 h1 h2)
  · exact .of_right (intBits_le_64 h1 h2)
theorem op_add : OpR X (binaryOp .Add) (rI0 fun i j => .int (i + j)) := opI0 fun _ _ _ _ _ _ _ q => add_int q
theorem op_sub : OpR X (binaryOp .Sub) (rI0 fun i j => .int (i - j)) := opI0 fun _ _ _ _ _ _ _ q => sub_int q
theorem op_mul : OpR X (binaryOp .Mult) (rI CMul fun i j => .int (i * j)) := opI fun _ _ _ _ _ _ _ hc q => mul_int q hc.ok
theorem op_fdiv : OpR X (binaryOp .FloorDiv) (rI CDiv fun i j => .int (i / j)) := opI fun i j _ _ _ _ _ hc q => by
  have h1 : (0 : Int) < j := hc.1
  have h2 : j < 1073741824 := hc.2
  exact floordiv_int (by omega) (by rw [Int.fdiv_eq_ediv_of_nonneg i (by omega)]; exact q) (.inl (PyProof.noPylong_small (by omega)))
theorem op_mod : OpR X (binaryOp .Mod) (rI (fun _ j => 0 < j) fun i j => .int (i % j)) := opI fun i j _ _ _ _ _ hc q => by
  have h1 : (0 : Int) < j := hc
  exact mod_int' (by omega) (by rw [Int.fmod_eq_emod_of_nonneg i (by omega)]; exact q)
theorem op_modN : OpR X (binaryOp .Mod) (rI (fun _ j => j ≠ 0) fun i j => .int (i.fmod j)) := opI fun _ _ _ _ _ _ _ hc q => mod_int' hc q
theorem op_pow : OpR X (binaryOp .Pow) (rI CPow fun i j => .int (i ^ j.toNat)) := opI fun _ _ _ _ _ _ _ hc q => pow_int_small hc.1 hc.2.1 hc.2.2 q
theorem unI {f : Value → Sem Value} {g : Int → Int}
    (rule : ∀ (i : Int) (t : Tok) (s : Shared) (Q : Value → Shared → Prop) (E : Value → Shared → Prop), Q (.int (g i) s.toks) { s with toks := s.toks + 1 } → wpAny (model X.prog X.w) X.A (f (.int i t)) Q E s) :
    UnR X f (rU fun i => .int (g i)) := by
  intro pins s σ H x v Q I rx h
  obtain ⟨i, rfl, q⟩ := h
  obtain ⟨t, rfl⟩ := rx
  exact rule i t s _ _ ⟨.int (g i), H, I.tok _, ⟨_, rfl⟩, q⟩
theorem un_neg : UnR X (unaryOp .USub) (rU fun i => .int (-i)) := unI fun _ _ _ _ _ q => neg_int q
end
def scal : V → V → Bool
  | .non, .non => true | .non, .int _ => true | .int _, .non => true | .non, .bl _ => true | .bl _, .non => true | .non, .str _ => true | .str _, .non => true
  | .int _, .int _ => true | .bl _, .bl _ => true | .str _, .str _ => true | .byt _, .byt _ => true
  | .int _, .str _ => true | .str _, .int _ => true | .bl _, .str _ => true | .str _, .bl _ => true
  | _, _ => false
def rEq : R2 := fun x y H Q => scal x y = true ∧ Q (.bl (decide (x = y))) H
def rNe : R2 := fun x y H Q => scal x y = true ∧ Q (.bl (!decide (x = y))) H
theorem dec_int {i j : Int} : decide (V.int i = V.int j) = (i == j) := by
  rw [Bool.eq_iff_iff]
  simp
theorem dec_bl {i j : Bool} : decide (V.bl i = V.bl j) = (i == j) := by
  rw [Bool.eq_iff_iff]
  simp
theorem dec_str {i j : Str} : decide (V.str i = V.str j) = (i == j) := by
  rw [Bool.eq_iff_iff]
  simp
theorem dec_byt {i j : Array UInt8} : decide (V.byt i = V.byt j) = (i.toList == j.toList) := by
  rw [Bool.eq_iff_iff]
  cases i
  cases j
  simp
section
variable {X : Cx} {a b c : Expr} {ta tb tc : TE} {pos : Pos}
theorem fin_bl {pins : List (Addr × Obj)} {σ : St} {H : Hp} {s : Shared} {Q : VK} {k k' : Bool} (I : Inv X pins σ H s) (q : Q (.bl k) H) (e : k = k') : EP X pins σ Q (.bool k') s := by
  subst e
  exact ⟨.bl k, H, I, rfl, q⟩
theorem op_eq : OpR X (compareOp .Eq) rEq := by
  intro pins s σ H x y v u Q I rx ry h
  obtain ⟨hs, q⟩ := h
  cases x with
  | non =>
    cases rx
    cases y with
    | non => cases ry; exact PySem.EqNone.eq_none_none (fin_bl I q (by simp))
    | bl j => cases ry; exact PySem.EqNone.eq_none_bool (fin_bl I q (by simp))
    | int j => obtain ⟨t', rfl⟩ := ry; exact PySem.EqNone.eq_none_int (fin_bl I q (by simp))
    | str j => obtain ⟨t', rfl⟩ := ry; exact PySem.EqNone.eq_none_str (fin_bl I q (by simp))
    | _ => exact absurd (show false = true from hs) Bool.false_ne_true
  | bl i =>
    cases rx
    cases y with
    | non => cases ry; exact PySem.EqNone.eq_bool_none (fin_bl I q (by simp))
    | bl j => cases ry; exact eq_bool (fin_bl I q dec_bl)
    | str j => obtain ⟨t', rfl⟩ := ry; exact PySem.EqMixed.eq_bool_str (fin_bl I q (by simp))
    | _ => exact absurd (show false = true from hs) Bool.false_ne_true
  | int i =>
    obtain ⟨t, rfl⟩ := rx
    cases y with
    | non => cases ry; exact PySem.EqNone.eq_int_none (fin_bl I q (by simp))
    | int j => obtain ⟨t', rfl⟩ := ry; exact eq_int (fin_bl I q dec_int)
    | str j => obtain ⟨t', rfl⟩ := ry; exact PySem.EqMixed.eq_int_str (fin_bl I q (by simp))
    | _ => exact absurd (show false = true from hs) Bool.false_ne_true
  | str i =>
    obtain ⟨t, rfl⟩ := rx
    cases y with
    | non => cases ry; exact PySem.EqNone.eq_str_none (fin_bl I q (by simp))
    | bl j => cases ry; exact PySem.EqMixed.eq_str_bool (fin_bl I q (by simp))
    | int j => obtain ⟨t', rfl⟩ := ry; exact PySem.EqMixed.eq_str_int (fin_bl I q (by simp))
    | str j => obtain ⟨t', rfl⟩ := ry; exact eq_str (fin_bl I q dec_str)
    | _ => exact absurd (show false = true from hs) Bool.false_ne_true
  | byt i =>
    obtain ⟨t, rfl⟩ := rx
    cases y with
    | byt j => obtain ⟨t', rfl⟩ := ry; exact PySem.W.eq_bytes (fin_bl I q dec_byt)
    | _ => exact absurd (show false = true from hs) Bool.false_ne_true
  | _ => cases y <;> exact absurd (show false = true from hs) Bool.false_ne_true
theorem op_ne : OpR X (compareOp .NotEq) rNe := by
  intro pins s σ H x y v u Q I rx ry h
  obtain ⟨hs, q⟩ := h
  cases x with
  | non =>
    cases rx
    cases y with
    | non => cases ry; exact PySem.EqNone.ne_none_none (fin_bl I q (by simp))
    | bl j => cases ry; exact PySem.EqNone.ne_none_bool (fin_bl I q (by simp))
    | int j => obtain ⟨t', rfl⟩ := ry; exact PySem.EqNone.ne_none_int (fin_bl I q (by simp))
    | str j => obtain ⟨t', rfl⟩ := ry; exact PySem.EqNone.ne_none_str (fin_bl I q (by simp))
    | _ => exact absurd (show false = true from hs) Bool.false_ne_true
  | bl i =>
    cases rx
    cases y with
    | non => cases ry; exact PySem.EqNone.ne_bool_none (fin_bl I q (by simp))
    | bl j => cases ry; exact ne_bool (fin_bl I q (congrArg not dec_bl))
    | str j => obtain ⟨t', rfl⟩ := ry; exact PySem.EqMixed.ne_bool_str (fin_bl I q (by simp))
    | _ => exact absurd (show false = true from hs) Bool.false_ne_true
  | int i =>
    obtain ⟨t, rfl⟩ := rx
    cases y with
    | non => cases ry; exact PySem.EqNone.ne_int_none (fin_bl I q (by simp))
    | int j => obtain ⟨t', rfl⟩ := ry; exact ne_int (fin_bl I q (congrArg not dec_int))
    | str j => obtain ⟨t', rfl⟩ := ry; exact PySem.EqMixed.ne_int_str (fin_bl I q (by simp))
    | _ => exact absurd (show false = true from hs) Bool.false_ne_true
  | str i =>
    obtain ⟨t, rfl⟩ := rx
    cases y with
    | non => cases ry; exact PySem.EqNone.ne_str_none (fin_bl I q (by simp))
    | bl j => cases ry; exact PySem.EqMixed.ne_str_bool (fin_bl I q (by simp))
    | int j => obtain ⟨t', rfl⟩ := ry; exact PySem.EqMixed.ne_str_int (fin_bl I q (by simp))
    | str j => obtain ⟨t', rfl⟩ := ry; exact ne_str (fin_bl I q (congrArg not dec_str))
    | _ => exact absurd (show false = true from hs) Bool.false_ne_true
  | byt i =>
    obtain ⟨t, rfl⟩ := rx
    cases y with
    | byt j => obtain ⟨t', rfl⟩ := ry; exact PySem.W.ne_bytes (fin_bl I q (congrArg not dec_byt))
    | _ => exact absurd (show false = true from hs) Bool.false_ne_true
  | _ => cases y <;> exact absurd (show false = true from hs) Bool.false_ne_true
theorem op_lt : OpR X (compareOp .Lt) (rI0 fun i j => .bl (decide (i < j))) := opB0 fun _ _ _ _ _ _ _ q => lt_int q
theorem op_le : OpR X (compareOp .LtE) (rI0 fun i j => .bl (decide (i ≤ j))) := opB0 fun _ _ _ _ _ _ _ q => le_int q
theorem op_gt : OpR X (compareOp .Gt) (rI0 fun i j => .bl (decide (j < i))) := opB0 fun _ _ _ _ _ _ _ q => gt_int q
theorem OpR.or {f : Value → Value → Sem Value} {r r' : R2} (h : OpR X f r) (h' : OpR X f r') : OpR X f (fun x y H Q => r x y H Q ∨ r' x y H Q) := by
  intro pins s σ H x y v u Q I rx ry q
  rcases q with q | q
  · exact h pins s σ H x y v u Q I rx ry q
  · exact h' pins s σ H x y v u Q I rx ry q
theorem nomark (b : Expr) {op : CmpOp} (h : op ≠ .In := by decide) (h2 : op ≠ .NotIn := by decide) : behindInMarks op b = false := by
  have e1 : (op == CmpOp.In) = false := by cases op <;> first | rfl | exact absurd rfl h
  have e2 : (op == CmpOp.NotIn) = false := by cases op <;> first | rfl | exact absurd rfl h2
  cases b <;> simp [behindInMarks, e1, e2]
theorem pe_cmpR {op : CmpOp} {r : R2} (ho : OpR X (compareOp op) r) (ha : PE X a ta) (hb : PE X b tb) (hm : behindInMarks op b = false) : PE X (.Compare a [op] [b] pos) (tOp r ta tb) := by
  intro pins s σ H Q I h
  exact wpAny_Compare1 (binT ha hb I h fun v u s2 x y H2 I2 rx ry q => ho pins s2 σ H2 x y v u Q I2 rx ry q) hm
def tTest (t : TE) : TT := fun σ H Q => t σ H fun x H' => ∃ k, x = .bl k ∧ Q k H'
theorem pt_cmpR {op : CmpOp} {r : R2} (ho : OpR X (compareOp op) r) (ha : PE X a ta) (hb : PE X b tb) (hm : behindInMarks op b = false) : PT X (.Compare a [op] [b] pos) (tTest (tOp r ta tb)) := by
  intro pins s σ H Q I h
  refine wpAny_isTrue_Compare1 (thn (ha pins s σ H _ I h) fun v s1 ⟨x, H1, I1, r1, q1⟩ => thn (hb pins s1 σ H1 _ I1 q1) fun u s2 ⟨y, H2, I2, r2, q2⟩ =>
    thn (ho pins s2 σ H2 x y v u _ I2 r1 r2 q2) fun c s3 ⟨z, H3, I3, r3, k, e, q3⟩ => ?_) hm
  subst e
  cases r3
  exact wpAny_truthy_bool ⟨H3, I3, q3⟩
def tChain (r r' : R2) (ta tb tc : TE) : TE := fun σ H Q => ta σ H fun x H1 => tb σ H1 fun y H2 => r x y H2 fun z H3 => ∃ k, z = .bl k ∧
  (if k = true then tc σ H3 fun w' H4 => r' y w' H4 Q else Q (.bl false) H3)
theorem pe_chain {op op' : CmpOp} {r r' : R2} (ho : OpR X (compareOp op) r) (ho' : OpR X (compareOp op') r') (ha : PE X a ta) (hb : PE X b tb) (hc : PE X c tc)
    (hm : lastMarks [op, op'] [b, c] = false := by with_unfolding_all rfl) : PE X (.Compare a [op, op'] [b, c] pos) (tChain r r' ta tb tc) := by
  intro pins s σ H Q I h
  refine Compare_chain (thn (ha pins s σ H _ I h) fun v s1 ⟨x, H1, I1, r1, q1⟩ => chain_link (thn (hb pins s1 σ H1 _ I1 q1) fun u s2 ⟨y, H2, I2, r2, q2⟩ =>
    thn (ho pins s2 σ H2 x y v u _ I2 r1 r2 q2) fun d s3 ⟨z, H3, I3, r3, k, e, q3⟩ => ?_)) hm
  subst e
  cases r3
  refine wpAny_truthy_bool ?_
  cases k with
  | false => exact ite_ff ⟨.bl false, H3, I3, rfl, q3⟩
  | true => exact ite_tt (chain_last (thn (hc pins s3 σ H3 _ I3 q3) fun w' s4 ⟨z', H4, I4, r4, q4⟩ => ho' pins s4 σ H4 y z' u w' Q I4 r2 r4 q4))
theorem line63 : (sizeLine : Nat) < 2 ^ 63 := by rw [sizeLine_eq]; decide
theorem vals1 {x : V} {us : List Value} (r : Vals [x] us) : ∃ u, us = [u] ∧ RelV x u := by
  cases r with
  | cons r1 r2 => cases r2; exact ⟨_, rfl, r1⟩
theorem vals2 {x y : V} {us : List Value} (r : Vals [x, y] us) : ∃ u w', us = [u, w'] ∧ RelV x u ∧ RelV y w' := by
  cases r with
  | cons r1 r2 =>
    cases r2 with
    | cons r3 r4 => cases r4; exact ⟨_, _, rfl, r1, r3⟩
theorem call_abs : CallR X (.builtin "abs") (fun xs H Q => ∃ i, xs = [.int i] ∧ Q (.int (if i < 0 then -i else i)) H) := by
  intro pins s σ H xs us Q I r h
  obtain ⟨i, rfl, q⟩ := h
  obtain ⟨u, rfl, t, rfl⟩ := vals1 r
  exact call_abs_int fun u tk => ⟨.int (if i < 0 then -i else i), H, I.tok _, ⟨_, rfl⟩, q⟩
theorem call_min2 (hc : X.calm = true) : CallR X (.builtin "min") (fun xs H Q => ∃ i j, xs = [.int i, .int j] ∧ Q (.int (if j < i then j else i)) H) := by
  intro pins s σ H xs us Q I r h
  obtain ⟨i, j, rfl, q⟩ := h
  obtain ⟨u, w', rfl, ⟨t, rfl⟩, ⟨t', rfl⟩⟩ := vals2 r
  refine min_two_ints (I.ok.hd hc) fun h' tk k => ⟨_, H, I.kept k, ?_, q⟩
  by_cases hj : j < i
  · rw [if_pos hj, if_pos hj]; exact ⟨_, rfl⟩
  · rw [if_neg hj, if_neg hj]; exact ⟨_, rfl⟩
theorem call_int1 : CallR X (.type "int") (fun xs H Q => (∃ i, xs = [.int i] ∧ Q (.int i) H) ∨ ∃ k, xs = [.bl k] ∧ Q (.int (if k then 1 else 0)) H) := by
  intro pins s σ H xs us Q I r h
  rcases h with ⟨i, rfl, q⟩ | ⟨k, rfl, q⟩
  · obtain ⟨u, rfl, t, rfl⟩ := vals1 r
    exact call_int_int ⟨.int i, H, I, ⟨_, rfl⟩, q⟩
  · obtain ⟨u, rfl, r1⟩ := vals1 r
    cases r1
    exact call_int_bool ⟨.int (if k then 1 else 0), H, I.tok _, ⟨_, rfl⟩, q⟩
end
end L2
namespace L2
open PySem PySem.Spec PyProof.Rows
section
variable {prog : Program} {w : World} {A : Around} {E : Value → Shared → Prop} {s : Shared} {K : PySem.W.Frag} {x dx C f : Addr} {mA : Str → Option Value} {name : Str} {v : Value}
end
section
variable {P : Program} {w : World} {H H' : Hp} {h h' : Heap} {a C dx : Addr} {fs fs' : List (Str × V)}
end
structure Cls (K : PySem.W.Frag) (C : Addr) : Prop where
  pg : PySem.W.plainGet K C Str.empty = true
  hd : PySem.W.hasDictIn K C = true
  po : PySem.W.plainOver K C = true
  sa : PySem.W.findIn K (.ref C) "__setattr__" = some (some (.builtin "object.__setattr__"))
theorem Cls.get {K : PySem.W.Frag} {C : Addr} (c : Cls K C) (f : Str) : PySem.W.plainGet K C f = true := c.pg
section
variable {X : Cx} {pins : List (Addr × Obj)} {σ : St} {H : Hp} {s : Shared} {a C dx : Addr} {fs : List (Str × V)} {f : Str} {v : V} {A : Around} {E : Value → Shared → Prop}
end
section
variable {X : Cx} {o e value : Expr} {f : Str} {pos pos' tpos : Pos} {ta tv : TE}
end
section
variable {X : Cx} {pins : List (Addr × Obj)} {σ : St} {H : Hp} {s : Shared} {A : Around} {E : Value → Shared → Prop} {Q : Value → Shared → Prop} {c : Value} {b : Bool}
end
end L2
namespace L2
open PySem PySem.Spec PyProof.Rows
structure Room (k : Nat) (A : Around) : Prop where
  hd : A.handled = none
  dp : A.depth + 3 * k + 5 < recursionLimit
  un : A.units + 16 * k + 200 < cLine
theorem Room.mono {j k : Nat} {A : Around} (r : Room k A) (h : j ≤ k) : Room j A := ⟨r.hd, by have := r.dp; omega, by have := r.un; omega⟩
theorem Room.deeper {k : Nat} {A : Around} (r : Room (k + 1) A) (env : Env) : Room k (A.deeper env) :=
  ⟨r.hd, by have := r.dp; show A.depth + 1 + 3 * k + 5 < _; omega, by have := r.un; show A.units + 3 + 16 * k + 200 < _; omega⟩
theorem Room.in1 {k : Nat} {A : Around} (r : Room (k + 1) A) : Room k A.in1 :=
  ⟨r.hd, by have := r.dp; show A.depth + 3 * k + 5 < _; omega, by have := r.un; show A.units + 1 + 16 * k + 200 < _; omega⟩
theorem Room.depth {k : Nat} {A : Around} (r : Room k A) : A.depth < recursionLimit := by have := r.dp; omega
theorem Room.units {k : Nat} {A : Around} (r : Room k A) : A.units + 64 < cLine := by have := r.un; omega
def tNil : TA := fun _ H Q => Q [] H
def tCons (ta : TE) (tr : TA) : TA := fun σ H Q => ta σ H fun x H1 => tr σ H1 fun xs H2 => Q (x :: xs) H2
section
variable {X : Cx} {e : Expr} {es : List Expr} {te : TE} {t : TA} {pos : Pos}
theorem pa_nil : PA X [] tNil := fun _ _ _ _ H Q I h => Calls.spliced_nil ⟨[], H, I, .nil, h⟩
theorem pa_cons (ha : PE X e te) (hr : PA X es t) (hs : starEach (e :: es) X.env = (false, eval e X.env) :: starEach es X.env := by rfl) : PA X (e :: es) (tCons te t) := by
  intro pos pins s σ H Q I h
  rw [hs]
  show wpAny _ _ (spliced ((false, eval e X.env) :: backTo pos (starEach es X.env))) _ _ s
  refine Calls.spliced_cons (thn (ha pins s σ H _ I h) fun u s1 ⟨x, H1, I1, r1, q1⟩ => ?_)
  exact thn (hr pos pins s1 σ H1 _ I1 q1) fun us s2 ⟨xs, H2, I2, r2, q2⟩ => ⟨x :: xs, H2, I2, .cons r1 r2, q2⟩
def tTup (t : TA) : TE := fun σ H Q => t σ H fun xs H1 => xs.length ≤ sizeLine ∧ ∀ p, H1 p = none → Q (.ref p) (upd H1 p (.tup xs))
def tLst (t : TA) : TE := fun σ H Q => t σ H fun xs H1 => xs.length ≤ sizeLine ∧ ∀ p, H1 p = none → Q (.ref p) (upd H1 p (.lst xs))
theorem pe_tup {x1} (h : PA X es t) : PE X (.Tuple es x1 pos) (tTup t) := by
  intro pins s σ H Q I hq
  refine wpAny_Tuple_spliced (thn (h pos pins s σ H _ I hq) fun us s1 ⟨xs, H1, I1, r, z, q⟩ => ⟨by rw [← r.length]; exact z, ?_⟩)
  have hf : H1 s1.heap.objs.size = none := I1.hok.fresh (Nat.le_refl _)
  refine ⟨.ref s1.heap.objs.size, upd H1 s1.heap.objs.size (.tup xs), I1.laid (t' := s1.toks) (fun b u e => Heap.get?_push_of_some _ e) (Nat.le_refl _) ?_, rfl, q _ hf⟩
  exact ⟨z, us, r, ⟨_, Heap.get?_push_size _ rfl, rfl, _, rfl⟩⟩
theorem pe_lst (h : PA X es t) : PE X (.List es pos) (tLst t) := by
  intro pins s σ H Q I hq
  refine wpAny_List_spliced (thn (h pos pins s σ H _ I hq) fun us s1 ⟨xs, H1, I1, r, z, q⟩ => ⟨by rw [← r.length]; exact z, ?_⟩)
  have hf : H1 s1.heap.objs.size = none := I1.hok.fresh (Nat.le_refl _)
  refine ⟨.ref s1.heap.objs.size, upd H1 s1.heap.objs.size (.lst xs), I1.laid (t' := s1.toks) (fun b u e => Heap.get?_push_of_some _ e) (Nat.le_refl _) ?_, rfl, q _ hf⟩
  exact ⟨z, us, 0, r, Heap.get?_push_size _ rfl⟩
end
abbrev Sp := List V → Hp → VK → XK → Prop
abbrev CXT := List Env → Hp → Shared → XK → Value → Shared → Prop
structure Env0 (P : Program) (w : World) (K : PySem.W.Frag) (mg : Str → Option Value) (base : Heap) (A : Around) (outer : List Env) (s : Shared) (H : Hp) : Prop where
  frames : A.frames = some outer
  mod : Mod K mg base
  bs : ∀ b o, base.get? b = some o → s.heap.get? b = some o ∧ H b = none
  bsz : base.objs.size ≤ s.heap.objs.size
  funs : s.heap.FunFrames base outer
  frf : ∀ b ∈ frs outer, H b = none
  hok : HOk P w H s.heap
  bare : AllBare s.gens
def CE (outer : List Env) (P : Program) (w : World) (H : Hp) (s : Shared) (Q : VK) (u : Value) (s' : Shared) : Prop :=
  ∃ v H', s'.os = s.os ∧ AllBare s'.gens ∧ Un (frs outer) [] H H' s.heap s'.heap ∧ HOk P w H' s'.heap ∧ RelV v u ∧ Q v H'
def CR (CX : CXT) (outer : List Env) (P : Program) (w : World) (H : Hp) (s : Shared) (Q : VK) (E : XK) (r : Result) (s' : Shared) : Prop :=
  match r with
  | .ok (.ret u) => CE outer P w H s Q u s'
  | .ok _ => False
  | .error e => CX outer H s E e s'
structure FnOk (P : Program) (w : World) (K : PySem.W.Frag) (mg : Str → Option Value) (base : Heap) (CX : CXT) (k : Nat) (f : Addr) (fd : FuncData) (ps : List Str) (sp : Sp) : Prop where
  len : ∀ vs H Q E, sp vs H Q E → vs.length = ps.length
  run : ∀ (A : Around) (outer : List Env) (s : Shared) (H : Hp) (args : Args) (us : List Value) (vs : List V) (Q : VK) (E : XK), Room k A → Env0 P w K mg base A outer s H → BindsTo s fd args (ps.zip us) → Vals vs us → sp vs H Q E →
    codeAny (model P w) A (.call (.ref f) args) (CR CX outer P w H s Q E) s
theorem FnOk.mono {P : Program} {w : World} {K : PySem.W.Frag} {mg : Str → Option Value} {base : Heap} {CX : CXT} {j k : Nat} {f : Addr} {fd : FuncData} {ps : List Str} {sp : Sp} (F : FnOk P w K mg base CX j f fd ps sp) (h : j ≤ k) :
    FnOk P w K mg base CX k f fd ps sp := ⟨F.len, fun A outer s H args us vs Q E hr => F.run A outer s H args us vs Q E (hr.mono h)⟩
theorem FnOk.imp {P : Program} {w : World} {K : PySem.W.Frag} {mg : Str → Option Value} {base : Heap} {CX : CXT} {k : Nat} {f : Addr} {fd : FuncData} {ps : List Str} {sp sp' : Sp} (F : FnOk P w K mg base CX k f fd ps sp)
    (h : ∀ vs H Q E, sp' vs H Q E → sp vs H Q E) : FnOk P w K mg base CX k f fd ps sp' :=
  ⟨fun vs H Q E q => F.len vs H Q E (h _ _ _ _ q), fun A outer s H args us vs Q E hr he hb hv hs => F.run A outer s H args us vs Q E hr he hb hv (h _ _ _ _ hs)⟩
theorem Env0.in1 {P : Program} {w : World} {K : PySem.W.Frag} {mg : Str → Option Value} {base : Heap} {A : Around} {outer : List Env} {s : Shared} {H : Hp} (e : Env0 P w K mg base A outer s H) :
    Env0 P w K mg base A.in1 outer s H := ⟨e.frames, e.mod, e.bs, e.bsz, e.funs, e.frf, e.hok, e.bare⟩
section
variable {X : Cx} {pins : List (Addr × Obj)} {σ : St} {H : Hp} {s s' : Shared}
theorem Inv.env0 (I : Inv X pins σ H s) : Env0 X.prog X.w X.K X.mg X.base X.A X.stack s H :=
  ⟨I.ok.frames, I.ok.mod, I.bs, Nat.le_trans I.ok.bsz I.sz, I.stack, I.stkFree, I.hok, I.bare⟩
theorem Inv.after {Q : VK} {u : Value} (I : Inv X pins σ H s) (h : CE X.stack X.prog X.w H s Q u s') : EP X pins σ Q u s' := by
  obtain ⟨v, H', os, bare, un, hok, r, q⟩ := h
  obtain ⟨hh, g, d, t, os'⟩ := s'
  obtain rfl : os' = s.os := os
  exact ⟨v, H', I.call (h' := hh) (g' := g) (d' := d) (t' := t) (ch := []) un hok bare (fun b z => absurd z (by simp)), r, q⟩
end
def tCall (sp : Sp) (dvs : List V) (E : XK) (t : TA) : TE := fun σ H Q => t σ H fun vs H1 => sp (vs ++ dvs) H1 Q E
def Binds (K : PySem.W.Frag) (fd : FuncData) (ps : List Str) (ds : List Value) : Prop :=
  ∀ (s : Shared) (us : List Value), K.In s.heap → (us ++ ds).length = ps.length → BindsTo s fd ⟨us, []⟩ (ps.zip (us ++ ds))
theorem Binds.all {K : PySem.W.Frag} {fd : FuncData} {ps : List Str} (h : ∀ us : List Value, us.length = ps.length → bindArgs fd ⟨us, []⟩ = pure (ps.zip us)) : Binds K fd ps [] := fun s us _ hl => by
  rw [List.append_nil] at hl ⊢
  exact .of_eq (h us hl)
def Passes (CX : CXT) (X : Cx) (E : XK) : Prop := ∀ (pins : List (Addr × Obj)) (σ : St) (H : Hp) (s : Shared) (e : Value) (s' : Shared), Inv X pins σ H s → CX X.stack H s E e s' → X.xe e s'
section
variable {X : Cx} {CX : CXT} {k : Nat} {f C : Addr} {fd : FuncData} {ps : List Str} {sp : Sp} {dvs : List V} {ds : List Value} {E : XK} {x m : Str} {p pos apos : Pos} {e o : Expr} {es : List Expr} {ta : TE} {t : TA}
theorem run_fn {pins : List (Addr × Obj)} {σ : St} {H : Hp} {s : Shared} {Q : VK} {us : List Value} {vs : List V} (F : FnOk X.prog X.w X.K X.mg X.base CX k f fd ps sp) (hr : Room k X.A) (hb : Binds X.K fd ps ds) (hd : Vals dvs ds) (hx : Passes CX X E)
    (I : Inv X pins σ H s) (r : Vals vs us) (h : sp (vs ++ dvs) H Q E) : wpAny (model X.prog X.w) X.A (call (.ref f) us) (EP X pins σ Q) X.xe s := by
  have r2 : Vals (vs ++ dvs) (us ++ ds) := r.append hd
  have hl : (us ++ ds).length = ps.length := by rw [← r2.length]; exact F.len _ _ _ _ h
  refine wpAny_call (codeAny_mono (F.run X.A X.stack s H ⟨us, []⟩ (us ++ ds) (vs ++ dvs) Q E hr I.env0 (hb s us I.kIn hl) r2 h) fun r s' hq => ?_)
  cases r with
  | error e => exact hx pins σ H s e s' I hq
  | ok fl =>
    cases fl with
    | ret u => exact I.after hq
    | next => exact False.elim hq
    | brk => exact False.elim hq
    | cont => exact False.elim hq
theorem pe_call (F : FnOk X.prog X.w X.K X.mg X.base CX k f fd ps sp) (hr : Room k X.A) (hg : Gl X x) (hm : X.mg x = some (.ref f)) (hk : PySem.W.keepIn X.K (.ref f) = true) (hb : Binds X.K fd ps ds) (hd : Vals dvs ds) (hx : Passes CX X E)
    (ha : PA X (e :: es) t) (hdb : (x == ("__debug__" : Str)) = false := by decide) (he : starEach (e :: es) X.env = (false, eval e X.env) :: starEach es X.env := by rfl) (hpl : (backTo pos (starEach es X.env)).any (·.1) = false := by rfl) :
    PE X (.Call (.Name x p) (e :: es) [] pos) (tCall sp dvs E t) := by
  intro pins s σ H Q I h
  refine wpAny_Call_Name_kw (ld_glob I hg hm ?_ hdb)
  refine PySem.W.callWith_K (h₀ := X.base) I.ok.mod.kin hk (thn (ha pos pins s σ H _ I h) fun us s1 ⟨vs, H1, I1, r, q⟩ => ⟨I1.kIn, ?_⟩) he hpl
  exact run_fn F hr hb hd hx I1 r q
end
section
variable {X : Cx} {CX : CXT} {k : Nat} {f C : Addr} {fd : FuncData} {ps ks : List Str} {sp : Sp} {E : XK} {x m : Str} {p pos apos kpos : Pos} {e o : Expr} {es : List Expr} {kws : List Keyword} {te ta : TE} {t tk : TA} {nm : Option Str}
variable {g : List Value → List Value → List Value} {gV : List V → List V → List V}
end
structure FnScope (N P : List Str) (sc : Scope) : Prop where
  kind : sc.kind = .function
  co : sc.isCoroutine = false
  gen : sc.isGenerator = false
  nd : N.Nodup
  pre : N.take P.length = P
  par : ∀ x ∈ P, sc.names.lookup x = some .local ∨ sc.names.lookup x = some .cell
  nofree : ∀ y ∈ sc.names, y.2 ≠ .free
theorem bindL_out {kindOf : Str → Option NameKind} {x : Str} : ∀ {binds : List (Str × Value)} {m : Str → Option Value}, (∀ v, (x, v) ∉ binds) → bindL kindOf binds m x = m x
  | [], _, _ => rfl
  | (n, v) :: r, m, h => by
    unfold bindL
    rw [bindL_out fun w hw => h w (List.mem_cons_of_mem _ hw)]
    split
    · have : x ≠ n := by rintro rfl; exact h v List.mem_cons_self
      simp [this]
    · rfl
theorem bindC_out {kindOf : Str → Option NameKind} {x : Str} : ∀ {binds : List (Str × Value)} {m : Str → Option Value}, (∀ v, (x, v) ∉ binds) → bindC kindOf binds m x = m x
  | [], _, _ => rfl
  | (n, v) :: r, m, h => by
    unfold bindC
    rw [bindC_out fun w hw => h w (List.mem_cons_of_mem _ hw)]
    split
    · rfl
    · have : x ≠ n := by rintro rfl; exact h v List.mem_cons_self
      simp [this]
theorem bindL_get {kindOf : Str → Option NameKind} {x : Str} {v : Value} : ∀ {P : List Str} {vs : List Value} {i : Nat} {m : Str → Option Value}, P.Nodup → P[i]? = some x → vs[i]? = some v → kindOf x = some .local →
    bindL kindOf (P.zip vs) m x = some v
  | [], _, _, _, _, h, _, _ => by simp at h
  | _ :: _, [], _, _, _, _, h, _ => by simp at h
  | p :: P, w :: vs, 0, m, nd, h1, h2, hk => by
    simp at h1 h2; subst h1; subst h2
    show bindL kindOf ((p, w) :: P.zip vs) m p = _
    unfold bindL
    rw [bindL_out fun v hv => (List.nodup_cons.mp nd).1 (List.of_mem_zip hv).1, if_pos hk]
    simp
  | p :: P, w :: vs, i + 1, m, nd, h1, h2, hk => by
    show bindL kindOf ((p, w) :: P.zip vs) m x = _
    unfold bindL
    exact bindL_get (i := i) (List.nodup_cons.mp nd).2 (by simpa using h1) (by simpa using h2) hk
theorem bindC_get {kindOf : Str → Option NameKind} {x : Str} {v : Value} : ∀ {P : List Str} {vs : List Value} {i : Nat} {m : Str → Option Value}, P.Nodup → P[i]? = some x → vs[i]? = some v → kindOf x ≠ some .local →
    bindC kindOf (P.zip vs) m x = some v
  | [], _, _, _, _, h, _, _ => by simp at h
  | _ :: _, [], _, _, _, _, h, _ => by simp at h
  | p :: P, w :: vs, 0, m, nd, h1, h2, hk => by
    simp at h1 h2; subst h1; subst h2
    show bindC kindOf ((p, w) :: P.zip vs) m p = _
    unfold bindC
    rw [bindC_out fun v hv => (List.nodup_cons.mp nd).1 (List.of_mem_zip hv).1, if_neg hk]
    simp
  | p :: P, w :: vs, i + 1, m, nd, h1, h2, hk => by
    show bindC kindOf ((p, w) :: P.zip vs) m x = _
    unfold bindC
    exact bindC_get (i := i) (List.nodup_cons.mp nd).2 (by simpa using h1) (by simpa using h2) hk
def start (N : List Str) (vs : List V) : St := vs.map some ++ List.replicate (N.length - vs.length) none
def cxOf (CX : CXT) (P : Program) (w : World) (K : PySem.W.Frag) (mg : Str → Option Value) (base : Heap) (N : List Str) (qual : Str) (scope : Scope) (f : Addr) (cd : Value) (A : Around) (outer : List Env) (s : Shared) (H : Hp) (E : XK) : Cx where
  prog := P
  w := w
  K := K
  mg := mg
  base := base
  A := A.deeper (envOfC qual scope s.heap.objs.size f cd)
  N := N
  s₀ := s
  H₀ := H
  env := envOfC qual scope s.heap.objs.size f cd
  outer := outer
  stack := envOfC qual scope s.heap.objs.size f cd :: outer
  ex := []
  calm := true
  fn := fun _ => true
  pn := []
  xe := fun e s' => wpAny (model P w) (A.deeper (envOfC qual scope s.heap.objs.size f cd)) (leaving (envOfC qual scope s.heap.objs.size f cd) e) (fun _ s'' => CX outer H s E e s'') (fun e' s'' => CX outer H s E e' s'') s'
theorem cell_has {sc : Scope} {n : Nat} {x : Str} (h : sc.names.lookup x = some .cell) : ∃ c, (cellsFrom n sc.names []).lookup x = some c := by
  have q := PySem.W.cellsFrom_some sc.names n [] (.inl h)
  exact Option.isSome_iff_exists.mp q
theorem inv_start {CX : CXT} {P : Program} {w : World} {K : PySem.W.Frag} {mg : Str → Option Value} {base : Heap} {N ps : List Str} {qual : Str} {scope : Scope} {f : Addr} {cd : Value} {A : Around} {outer : List Env} {s s1 : Shared} {H : Hp} {E : XK} {us : List Value} {vs : List V}
    (S : FnScope N ps scope) (hd : A.handled = none) (e0 : Env0 P w K mg base A outer s H) (hl : vs.length = ps.length) (r : Vals vs us)
    (x : InCallC s s.heap.objs.size (bindL (envOfC qual scope s.heap.objs.size f cd).kindOf (ps.zip us) fun _ => none) (cellsFrom (s.heap.objs.size + 1) scope.names []) (bindC (envOfC qual scope s.heap.objs.size f cd).kindOf (ps.zip us) fun _ => none) s1) :
    Inv (cxOf CX P w K mg base N qual scope f cd A outer s H E) [] (start N vs) H s1 := by
  have hpl : ps.length ≤ N.length := by have := congrArg List.length S.pre; rw [List.length_take] at this; omega
  obtain ⟨h1, tk, rfl, hk⟩ := x.done
  have noA : ∀ b : Addr, b ∉ (cxOf CX P w K mg base N qual scope f cd A outer s H E).ex := fun b z => absurd (show b ∈ ([] : List Addr) from z) (by simp)
  refine ⟨⟨e0.mod, S.kind, rfl, rfl, Nat.le_refl _, fun y z c h1 h2 => ?_, fun y hy => ?_, fun y c _ h => ?_, fun _ => hd, Around.frames_deeper e0.frames, .inr ⟨rfl, rfl⟩, fun b z => absurd z (noA b), e0.bs, e0.bsz, fun b _ _ => noA b, fun b z => absurd z (noA b), e0.funs, e0.frf⟩,
    rfl, e0.bare, Un.kept hk, ⟨_, x.toInCall.ns, fun i y v h1 h2 h3 => ?_⟩, fun y c h => ⟨_, x.cell y c h⟩, e0.hok.fresh (Nat.le_refl _), fun y c h => ?_, fun p hp => absurd (show p ∈ ([] : List (Addr × Obj)) from hp) (by simp), e0.hok.kept hk, ?_⟩
  · exact name_of_addr x.apart (PySem.mem_of_lookup h1) (PySem.mem_of_lookup h2)
  · have hy : scope.names.lookup y = some .cell ∨ scope.names.lookup y = some .free := hy
    rcases hy with hy | hy
    · exact cell_has hy
    · exact absurd rfl (S.nofree _ (PySem.mem_of_lookup hy))
  · exact Nat.le_of_lt (x.above y c (PySem.mem_of_lookup h))
  · have hi : i < vs.length := by
      unfold start at h2
      by_cases hi : i < vs.length
      · exact hi
      · rw [List.getElem?_append_right (by simpa using hi)] at h2
        rw [List.getElem?_replicate] at h2
        split at h2 <;> cases h2
    have ha : vs[i]? = some v := by
      unfold start at h2
      rw [List.getElem?_append_left (by simpa using hi), List.getElem?_map] at h2
      cases e : vs[i]? with
      | none => rw [e] at h2; cases h2
      | some a => rw [e] at h2; cases h2; rfl
    obtain ⟨u, hu, rv⟩ := r.get ha
    have hp : ps[i]? = some y := by
      rw [← S.pre, List.getElem?_take_of_lt (by omega)]; exact h1
    have ndP : ps.Nodup := by rw [← S.pre]; exact S.nd.sublist (List.take_sublist _ _)
    refine ⟨u, rv, ?_⟩
    rcases S.par y (List.mem_of_getElem? hp) with k | k
    · exact .inl ⟨k, bindL_get ndP hp hu k⟩
    · obtain ⟨c, e⟩ := cell_has (n := s.heap.objs.size + 1) k
      refine .inr ⟨.inl k, c, e, ?_⟩
      have q := x.cell y c e
      rw [bindC_get ndP hp hu (by show scope.names.lookup y ≠ _; rw [k]; decide)] at q
      exact q
  · exact e0.hok.fresh (Nat.le_of_lt (x.above y c (PySem.mem_of_lookup h)))
  · unfold start
    show _ = N.length
    rw [List.length_append, List.length_map, List.length_replicate]
    omega
theorem fn_of {CX : CXT} {P : Program} {w : World} {K : PySem.W.Frag} {mg : Str → Option Value} {base : Heap} {k : Nat} {f : Addr} {name qual : Str} {params : Arguments} {body : List Stmt} {scope : Scope} {dV kV doc pm cdv ct oc : Value} {an od : Option Addr}
    {osl : Array (Option Value)} {N ps : List Str} {sp : Sp} (lk : K.lookup f = some ⟨oc, od, .func (PySem.W.fnOf name qual params body scope dV kV doc pm an cdv ct), osl⟩) (hcd : PySem.W.codeIn K cdv qual = true) (S : FnScope N ps scope)
    (len : ∀ vs H Q E, sp vs H Q E → vs.length = ps.length)
    (hbody : ∀ (A : Around) (outer : List Env) (s : Shared) (H : Hp) (vs : List V) (Q : VK) (E : XK), Room k (A.deeper (envOfC qual scope s.heap.objs.size f cdv)) → sp vs H Q E →
      ∃ t, PSs (cxOf CX P w K mg base N qual scope f cdv A outer s H E) body t ∧ t { nx := fun _ H' => Q .non H', rt := Q } (start N vs) H) :
    FnOk P w K mg base CX (k + 1) f (PySem.W.fnOf name qual params body scope dV kV doc pm an cdv ct) ps sp := by
  refine ⟨len, fun A outer s H args us vs Q E hr e0 hb r hsp => ?_⟩
  have hl := len _ _ _ _ hsp
  have KX : K.In s.heap := e0.mod.kin.keeps fun b o e => (e0.bs b o e).1
  have lim : s.heap.NoLimit := e0.mod.nolimit.keeps fun b o e => (e0.bs b o e).1
  have hkind : ∀ y ∈ ps.zip us, scope.names.lookup y.1 = some .local ∨ (scope.names.lookup y.1 = some .cell ∧ ((cellsFrom (s.heap.objs.size + 1) scope.names []).lookup y.1).isSome = true) := fun ⟨n, v⟩ hy => by
    rcases S.par n (List.of_mem_zip hy).1 with q | q
    · exact .inl q
    · exact .inr ⟨q, PySem.W.cellsFrom_some _ _ _ (.inl q)⟩
  refine codeAny_call_function hr.depth (KX _ _ lk) rfl S.co S.gen rfl (PySem.W.codeRec_of KX hcd) (hb _ _ _ _ ?_)
  refine wpAny_newFunctionEnv_cells S.kind hkind fun env he s1 x => ?_
  subst he
  refine ⟨lim.keeps x.toInCall.keep, codeAny_func ?_⟩
  obtain ⟨t, ht, hq⟩ := hbody A outer s H vs Q E (hr.deeper _) hsp
  have I : Inv (cxOf CX P w K mg base N qual scope f cdv A outer s H E) [] (start N vs) H s1 := inv_start S hr.hd e0 hl r x
  refine wpAny_mono (ht [] s1 (start N vs) H _ I hq) (fun fl s' hs => ?_) fun e s' hs => hs
  have fin : ∀ {σ' : St} {H' : Hp} {v : V} {u : Value}, Inv (cxOf CX P w K mg base N qual scope f cdv A outer s H E) [] σ' H' s' → RelV v u → Q v H' → CE outer P w H s Q u s' :=
    fun {σ' H' v u} J rv q => ⟨v, H', J.os, J.bare, J.base, J.hok, rv, q⟩
  cases fl with
  | ret u =>
    obtain ⟨v, σ', H', J, rv, q⟩ := hs
    exact fin J rv q
  | next =>
    obtain ⟨σ', H', J, q⟩ := hs
    exact fin (v := V.non) (u := Value.none) J rfl q
  | brk =>
    obtain ⟨_, _, _, q⟩ := hs
    exact False.elim q
  | cont =>
    obtain ⟨_, _, _, q⟩ := hs
    exact False.elim q
end L2
namespace L2
open PySem PySem.Spec PyProof.Rows
section
variable {X : Cx} {x : Str} {p pos : Pos} {e : Expr} {es : List Expr} {t : TA} {id T : String} {r : List V → Hp → VK → Prop}
def tCB (r : List V → Hp → VK → Prop) (t : TA) : TE := fun σ H Q => t σ H fun vs H1 => r vs H1 Q
theorem pe_callB (hc : CallR X (.builtin id) r) (hg : Gl X x) (hm : X.mg x = none) (hv : bootBuiltins x = some (.builtin id)) (ha : PA X (e :: es) t) (hn : x ≠ "__name__" := by decide) (hdb : (x == ("__debug__" : Str)) = false := by decide)
    (he : starEach (e :: es) X.env = (false, eval e X.env) :: starEach es X.env := by rfl) (hpl : (backTo pos (starEach es X.env)).any (·.1) = false := by rfl) : PE X (.Call (.Name x p) (e :: es) [] pos) (tCB r t) := by
  intro pins s σ H Q I h
  refine wpAny_Call_Name_kw (ld_blt I hg hm hv ?_ hn hdb)
  exact PyProof.Rows.callWith_builtin1 (thn (ha pos pins s σ H _ I h) fun us s1 ⟨vs, H1, I1, r1, q1⟩ => hc pins s1 σ H1 vs us Q I1 r1 q1) he hpl
theorem pe_callTy (hc : CallR X (.type T) r) (hg : Gl X x) (hm : X.mg x = none) (hv : bootBuiltins x = some (.type T)) (ha : PA X (e :: es) t) (hn : x ≠ "__name__" := by decide) (hdb : (x == ("__debug__" : Str)) = false := by decide)
    (he : starEach (e :: es) X.env = (false, eval e X.env) :: starEach es X.env := by rfl) (hpl : (backTo pos (starEach es X.env)).any (·.1) = false := by rfl) : PE X (.Call (.Name x p) (e :: es) [] pos) (tCB r t) := by
  intro pins s σ H Q I h
  refine wpAny_Call_Name_kw (ld_blt I hg hm hv ?_ hn hdb)
  exact PyProof.Rows.callWith_type1 (thn (ha pos pins s σ H _ I h) fun us s1 ⟨vs, H1, I1, r1, q1⟩ => hc pins s1 σ H1 vs us Q I1 r1 q1) he hpl
end
end L2
namespace HT
open PySem PyProof.Rows
def lexLt : List Int → List Int → Bool
  | [], [] => false
  | [], _ :: _ => true
  | _ :: _, [] => false
  | x :: xs, y :: ys => if x = y then lexLt xs ys else decide (x < y)
theorem lexLt_cons (x y : Int) (xs ys : List Int) : lexLt (x :: xs) (y :: ys) = if x = y then lexLt xs ys else decide (x < y) := rfl
theorem eqAt_int (A : Around) (s : Shared) (a : Int) (t : Tok) (c : Int) (u : Tok) : ∃ e, SeqAt.EqAt A s (.int a t) (.int c u) e ∧ (e = true ↔ a = c) :=
  ⟨(a == c), SeqAt.EqAt.int_int a t c u, by simp⟩
section
open PySem.SeqAt
open PySem.AutoSeq1 (wpAny_loadPart')
open PySem.MeetsSeq PySem.MeetsSeq2 PySem.MeetsSeq3
end
section
variable {prog : Program} {w : World} {A : Around} {E : Value → Shared → Prop} {s : Shared}
theorem cat_tup {t b : Addr} {vs ws : List Value} {Q : Value → Shared → Prop} (ht : IsTup s.heap t vs.toArray) (hb : IsTup s.heap b ws.toArray) (hv : vs ≠ [])
    (h1 : ws = [] → Q (.ref t) s) (h2 : ws ≠ [] → Q (.ref s.heap.objs.size) { s with heap := s.heap.push { cls := .type "tuple", data := .seq (vs ++ ws).toArray } })
    (hsz : vs.length + ws.length ≤ sizeLine) : wpAny (model prog w) A (binaryOp .Add (.ref t) (.ref b)) Q E s := by
  obtain ⟨⟨cls, dd, data, sl⟩, ho, hc, n, hd⟩ := id ht
  obtain ⟨⟨cls2, dd2, data2, sl2⟩, ho2, hc2, n2, hd2⟩ := id hb
  simp only at hc hd hc2 hd2
  subst hc hd hc2 hd2
  have e : vs.toArray ++ ws.toArray = (vs ++ ws).toArray := by simp
  by_cases hw : ws = []
  · exact concat_meets ⟨_, ho, rfl⟩ ⟨_, ho2, rfl⟩ noFill_tuple_add seq_tuple_add PySem.F.slot_tuple_add PySem.F.entry_tuple_add (PySem.F.args_tuple_add_2 _ _)
      (tuple_addW1 t b vs.toArray ws.toArray n n2 dd dd2 sl sl2 (by simpa using hv) (by simp [hw])) ⟨ho, ho2, h1 hw⟩
  · refine concat_meets ⟨_, ho, rfl⟩ ⟨_, ho2, rfl⟩ noFill_tuple_add seq_tuple_add PySem.F.slot_tuple_add PySem.F.entry_tuple_add (PySem.F.args_tuple_add_2 _ _)
      (tuple_addW2 t b vs.toArray ws.toArray n n2 dd dd2 sl sl2 (by simpa using hv) (by simpa using hw) (by rw [List.size_toArray, List.size_toArray]; exact hsz)) ⟨ho, ho2, ?_⟩
    rw [e]
    exact h2 hw
def sIx (n d : Nat) : Option Int → Nat
  | none => d
  | some v => if v < 0 then (v + (n : Int)).toNat else min v.toNat n
theorem sIx_none (n d : Nat) : sIx n d none = d := rfl
theorem sIx_nat (n d k : Nat) : sIx n d (some (k : Int)) = min k n := by
  show (if (k : Int) < 0 then ((k : Int) + (n : Int)).toNat else min (k : Int).toNat n) = min k n
  rw [if_neg (by omega), Int.toNat_natCast]
end
end HT
namespace L2
open PySem PySem.Spec PyProof.Rows
abbrev TO := St → Hp → (Option Int → Hp → Prop) → Prop
def PO (X : Cx) (e : Option Expr) (t : TO) : Prop :=
  ∀ (pins : List (Addr × Obj)) (s : Shared) (σ : St) (H : Hp) (Q : Option Int → Hp → Prop), Inv X pins σ H s → t σ H Q →
    wpAny (model X.prog X.w) X.A (evalPart e X.env) (fun u s' => ∃ o H', Inv X pins σ H' s' ∧ IsPart u o ∧ Q o H') X.xe s
def tNoPart : TO := fun _ H Q => Q none H
def tPart (t : TE) : TO := fun σ H Q => t σ H fun x H1 => ∃ i, x = .int i ∧ Q (some i) H1
theorem intsAre_of {ns : List Int} : ∀ {us : List Value}, Vals (ns.map V.int) us → IntsAre us ns := by
  induction ns with
  | nil => intro us r; rw [List.map_nil] at r; cases r; exact .nil
  | cons n ns ih =>
    intro us r
    rw [List.map_cons] at r
    cases r with
    | cons r1 r2 =>
      obtain ⟨t, e⟩ := r1
      subst e
      exact .cons n t (ih r2)
section
variable {X : Cx} {e : Expr} {te : TE} {lo hi : Option Expr} {tl th : TO} {pos p2 : Pos}
theorem po_none : PO X none tNoPart := by
  intro pins s σ H Q I h
  rw [evalPart_none]
  exact wpAny_pure ⟨none, H, I, .none, h⟩
theorem po_some (h : PE X e te) : PO X (some e) (tPart te) := by
  intro pins s σ H Q I hw
  rw [evalPart_some]
  refine thn (h pins s σ H _ I hw) fun u s1 ⟨x, H1, I1, r1, q1⟩ => ?_
  obtain ⟨i, rfl, q⟩ := q1
  obtain ⟨t, rfl⟩ := r1
  exact ⟨some i, H1, I1, .int i t, q⟩
def SlR (X : Cx) (r : V → Option Int → Option Int → Hp → VK → Prop) : Prop :=
  ∀ (pins : List (Addr × Obj)) (s : Shared) (σ : St) (H : Hp) (x : V) (v vl vu : Value) (lo hi : Option Int) (sl : Addr) (Q : VK), Inv X pins σ H s → RelV x v → s.heap.IsSliceOf sl vl vu .none → IsPart vl lo → IsPart vu hi → r x lo hi H Q →
    ∃ T id, typeLookup (.type T) "__getitem__" = pure (some (.builtin id)) ∧ s.TypeIs v T ∧ wpAny (model X.prog X.w) X.A (getItem v (.ref sl)) (EP X pins σ Q) X.xe s
theorem SlR.or {r r' : V → Option Int → Option Int → Hp → VK → Prop} (h : SlR X r) (h' : SlR X r') : SlR X (fun x lo hi H Q => r x lo hi H Q ∨ r' x lo hi H Q) := by
  intro pins s σ H x v vl vu lo hi sl Q I rx hs pl pu q
  rcases q with q | q
  · exact h pins s σ H x v vl vu lo hi sl Q I rx hs pl pu q
  · exact h' pins s σ H x v vl vu lo hi sl Q I rx hs pl pu q
def tSl (r : V → Option Int → Option Int → Hp → VK → Prop) (te : TE) (tl th : TO) : TE := fun σ H Q => te σ H fun x H1 => tl σ H1 fun l H2 => th σ H2 fun u H3 => r x l u H3 Q
theorem pe_slice {r : V → Option Int → Option Int → Hp → VK → Prop} (hr : SlR X r) (he : PE X e te) (hl : PO X lo tl) (hu : PO X hi th) : PE X (.Subscript e (.Slice lo hi none p2) pos) (tSl r te tl th) := by
  intro pins s σ H Q I h
  refine Subscript_ (thn (he pins s σ H _ I h) fun v s1 ⟨x, H1, I1, r1, q1⟩ => ?_)
  refine wpAny_Slice (thn (hl pins s1 σ H1 _ I1 q1) fun vl s2 ⟨l, H2, I2, pl, q2⟩ => thn (hu pins s2 σ H2 _ I2 q2) fun vu s3 ⟨u, H3, I3, pu, q3⟩ => ?_)
  rw [evalPart_none]
  refine wpAny_pure ?_
  have I4 : Inv X pins σ H3 { s3 with heap := s3.heap.push { cls := .type "slice", data := .fields #[vl, vu, .none] } } := I3.kept (t' := s3.toks) fun b ob q => Heap.get?_push_of_some _ q
  obtain ⟨T, id, hT, ht, hg⟩ := hr pins { s3 with heap := s3.heap.push { cls := .type "slice", data := .fields #[vl, vu, .none] } } σ H3 x v vl vu l u s3.heap.objs.size Q I4 r1 (Heap.IsSliceOf.new ..) pl pu q3
  show wpAny (model X.prog X.w) X.A (subscriptTail e (.Slice lo hi none p2) v (.ref s3.heap.objs.size)) (EP X pins σ Q) X.xe { s3 with heap := s3.heap.push { cls := .type "slice", data := .fields #[vl, vu, .none] } }
  exact tail_any (ops := [.ref s3.heap.objs.size, v]) ht hT hg (by with_unfolding_all rfl)
def cutV (xs : List V) (lo hi : Option Int) : List V := (xs.drop (HT.sIx xs.length 0 lo)).take (HT.sIx xs.length xs.length hi - HT.sIx xs.length 0 lo)
theorem cutV_length (xs : List V) (lo hi : Option Int) : (cutV xs lo hi).length ≤ xs.length := by
  unfold cutV
  rw [List.length_take, List.length_drop]
  omega
def rCatT (K : PySem.W.Frag) : R2 := fun x y H Q => ∃ a b xs ys, x = .ref a ∧ y = .ref b ∧ SqT K H a xs ∧ SqT K H b ys ∧ xs ≠ [] ∧ xs.length + ys.length ≤ sizeLine ∧
  (ys = [] → Q (.ref a) H) ∧ (ys ≠ [] → ∀ p, H p = none → Q (.ref p) (upd H p (.tup (xs ++ ys))))
theorem Vals.nil_iff {xs : List V} {us : List Value} (r : Vals xs us) : us = [] ↔ xs = [] := by
  cases r with
  | nil => simp
  | cons _ _ => simp
theorem op_catT : OpR X (binaryOp .Add) (rCatT X.K) := by
  intro pins s σ H x y v u Q I rx ry h
  obtain ⟨a, b, xs, ys, rfl, rfl, ha, hb, hx, hz, q1, q2⟩ := h
  cases rx
  cases ry
  obtain ⟨its, r1, p1, _⟩ := I.tuple ha
  obtain ⟨its2, r2, p2, _⟩ := I.tuple hb
  refine HT.cat_tup p1 p2 (fun z => hx (r1.nil_iff.mp z)) (fun z => ⟨.ref a, H, I, rfl, q1 (r2.nil_iff.mp z)⟩) (fun z => ?_) (by rw [← r1.length, ← r2.length]; exact hz)
  refine ⟨.ref s.heap.objs.size, _, I.laid (t' := s.toks) (o := .tup (xs ++ ys)) (fun b ob q => Heap.get?_push_of_some _ q) (Nat.le_refl _) ?_, rfl, q2 (fun w => z (r2.nil_iff.mpr w)) _ (I.hok.fresh (Nat.le_refl _))⟩
  exact ⟨by rw [List.length_append]; exact hz, _, r1.append r2, IsTup.new _ _⟩
end
end L2
namespace L2
open PySem PySem.Spec PyProof.Rows
def ixN (n : Nat) (i : Int) : Option Nat := if 0 ≤ i then (if i < n then some i.toNat else none) else if -(n : Int) ≤ i then some (i + n).toNat else none
def atI {α : Type} (xs : List α) (i : Int) : Option α := (ixN xs.length i).bind fun j => xs[j]?
theorem ixN_seq {n : Nat} {i : Int} {j : Nat} (h : ixN n i = some j) : seqIndex? i n = some j ∧ j < n ∧ -(n : Int) ≤ i ∧ i < n := by
  unfold ixN at h
  by_cases h0 : 0 ≤ i
  · rw [if_pos h0] at h
    by_cases h1 : i < n
    · rw [if_pos h1] at h
      have e : i.toNat = j := Option.some.inj h
      exact ⟨by rw [seqIndex_of h0 h1, e], by omega, by omega, h1⟩
    · rw [if_neg h1] at h; cases h
  · rw [if_neg h0] at h
    by_cases h1 : -(n : Int) ≤ i
    · rw [if_pos h1] at h
      have e : (i + n).toNat = j := Option.some.inj h
      exact ⟨by rw [seqIndex_neg (by omega) h1, e], by omega, h1, by omega⟩
    · rw [if_neg h1] at h; cases h
theorem atI_get {α : Type} {xs : List α} {i : Int} {v : α} (h : atI xs i = some v) : ∃ j, seqIndex? i xs.length = some j ∧ xs[j]? = some v ∧ j < xs.length ∧ -(xs.length : Int) ≤ i ∧ i < xs.length := by
  unfold atI at h
  cases e : ixN xs.length i with
  | none => rw [e] at h; cases h
  | some j =>
    rw [e] at h
    obtain ⟨h1, h2, h3, h4⟩ := ixN_seq e
    exact ⟨j, h1, h, h2, h3, h4⟩
theorem atI_nat {α : Type} {xs : List α} {j : Nat} {v : α} (h : xs[j]? = some v) : atI xs (j : Int) = some v := by
  have hj : j < xs.length := (List.getElem?_eq_some_iff.mp h).1
  have e : ixN xs.length (j : Int) = some j := by
    unfold ixN
    rw [if_pos (by omega), if_pos (by omega)]; simp
  unfold atI; rw [e]; exact h
def PlainIx (b : Expr) : Prop := ∀ o i, subscripted b false o i = operate [o, i] (getItem o i)
def IxR (X : Cx) (r : R2) : Prop :=
  ∀ (value slice : Expr) (pins : List (Addr × Obj)) (s : Shared) (σ : St) (H : Hp) (x y : V) (v u : Value) (Q : VK), Inv X pins σ H s → RelV x v → RelV y u → r x y H Q →
    subscripted slice false v u = operate [v, u] (getItem v u) → wpAny (model X.prog X.w) X.A (subscriptTail value slice v u) (EP X pins σ Q) X.xe s
def MtR (X : Cx) (id : String) (r : V → List V → Hp → VK → Prop) : Prop :=
  ∀ (pins : List (Addr × Obj)) (s : Shared) (σ : St) (H : Hp) (x : V) (xs : List V) (v : Value) (us : List Value) (Q : VK), Inv X pins σ H s → RelV x v → Vals xs us → r x xs H Q →
    wpAny (model X.prog X.w) X.A (call (.builtin id) (v :: us)) (EP X pins σ Q) X.xe s
section
variable {X : Cx} {a b : Expr} {ta tb : TE} {pos : Pos}
theorem IxR.or {r r' : R2} (h : IxR X r) (h' : IxR X r') : IxR X (fun x y H Q => r x y H Q ∨ r' x y H Q) := by
  intro value slice pins s σ H x y v u Q I rx ry q hs
  rcases q with q | q
  · exact h value slice pins s σ H x y v u Q I rx ry q hs
  · exact h' value slice pins s σ H x y v u Q I rx ry q hs
theorem MtR.or {id : String} {r r' : V → List V → Hp → VK → Prop} (h : MtR X id r) (h' : MtR X id r') : MtR X id (fun x xs H Q => r x xs H Q ∨ r' x xs H Q) := by
  intro pins s σ H x xs v us Q I rx rs q
  rcases q with q | q
  · exact h pins s σ H x xs v us Q I rx rs q
  · exact h' pins s σ H x xs v us Q I rx rs q
theorem pe_ix {r : R2} (hr : IxR X r) (ha : PE X a ta) (hb : PE X b tb) (hs : PlainIx b) : PE X (.Subscript a b pos) (tOp r ta tb) := by
  intro pins s σ H Q I h
  exact Subscript_ (binT ha hb I h fun v u s2 x y H2 I2 rx ry q => hr a b pins s2 σ H2 x y v u Q I2 rx ry q (hs _ _))
def rIxL (K : PySem.W.Frag) : R2 := fun x y H Q => ∃ p xs i v, x = .ref p ∧ y = .int i ∧ SqL K H p xs ∧ atI xs i = some v ∧ Q v H
def rIxT (K : PySem.W.Frag) : R2 := fun x y H Q => ∃ p xs i v, x = .ref p ∧ y = .int i ∧ SqT K H p xs ∧ atI xs i = some v ∧ Q v H
theorem ix_list : IxR X (rIxL X.K) := by
  intro value slice pins s σ H x y v u Q I rx ry h hs
  obtain ⟨p, xs, i, z, rfl, rfl, hq, he, q⟩ := h
  cases rx
  obtain ⟨t, rfl⟩ := ry
  obtain ⟨its, r, pl, hz⟩ := I.list hq
  obtain ⟨j, h1, h2, h3, h4, h5⟩ := atI_get he
  obtain ⟨w, ew, rw'⟩ := r.get h2
  have hl := r.length
  have hn := line63
  have fin : EP X pins σ Q w s := ⟨z, H, I, rw', q⟩
  by_cases h0 : 0 ≤ i
  · have hj : i.toNat = j := by
      rw [seqIndex_of h0 h5] at h1
      exact Option.some.inj h1
    exact item_listR pl.isList h0 (by omega) (by rw [hj]; simpa using ew) fin hs
  · have hj : (i + (its.toArray.size : Int)).toNat = j := by
      rw [seqIndex_neg (by omega) h4] at h1
      rw [List.size_toArray, ← hl]
      exact Option.some.inj h1
    exact subscriptTail_builtinR (x := w) pl.isList.typeIs slot_list_getitem.lookup
      (wpAny_getItem_list_neg (Q := fun r s' => r = w ∧ EP X pins σ Q r s') pl.isList (by omega) (by rw [List.size_toArray] <;> omega) (by omega) (by rw [hj]; simpa using ew) ⟨rfl, fin⟩) hs
theorem ix_tup : IxR X (rIxT X.K) := by
  intro value slice pins s σ H x y v u Q I rx ry h hs
  obtain ⟨p, xs, i, z, rfl, rfl, hq, he, q⟩ := h
  cases rx
  obtain ⟨t, rfl⟩ := ry
  obtain ⟨its, r, pl, hz⟩ := I.tuple hq
  obtain ⟨j, h1, h2, h3, h4, h5⟩ := atI_get he
  obtain ⟨w, ew, rw'⟩ := r.get h2
  have hl := r.length
  have hn := line63
  have fin : EP X pins σ Q w s := ⟨z, H, I, rw', q⟩
  exact subscriptTail_builtinR (x := w) pl.typeIs slot_tuple_getitem.lookup
    (getItem_tuple (j := j) (Q := fun r s' => r = w ∧ EP X pins σ Q r s') pl (by omega) (by omega) (by rw [List.size_toArray, ← hl]; exact h1) (by simpa using ew) ⟨rfl, fin⟩) hs
theorem Inv.lst {pins : List (Addr × Obj)} {σ : St} {H : Hp} {s : Shared} {p : Addr} {xs : List V} (I : Inv X pins σ H s) (h : H p = some (.lst xs)) :
    ∃ (its : List Value) (n : Nat), Vals xs its ∧ s.heap.get? p = some { cls := .type "list", data := .seq its.toArray n } ∧ xs.length ≤ sizeLine := by
  obtain ⟨z, its, n, r, e⟩ := I.hok p _ h
  exact ⟨its, n, r, e, z⟩
def rSetL : V → V → V → Hp → (Hp → Prop) → Prop := fun o i v H Q => ∃ p xs k j, o = .ref p ∧ i = .int k ∧ H p = some (.lst xs) ∧ ixN xs.length k = some j ∧ Q (upd H p (.lst (xs.set j v)))
theorem slice_bounds (lo hi : Option Int) (n : Nat) : (sliceBounds lo hi none n).1 = ((HT.sIx n 0 lo : Nat) : Int) ∧ (sliceBounds lo hi none n).2.1 = ((HT.sIx n n hi : Nat) : Int) ∧ (sliceBounds lo hi none n).2.2 = 1 := by
  refine ⟨?_, ?_, rfl⟩
  · cases lo with
    | none => simp [sliceBounds, HT.sIx]
    | some i =>
      simp only [sliceBounds, HT.sIx, Option.getD_none, show (1 : Int) > 0 by decide, if_true]
      by_cases h : i < 0
      · simp only [h, if_true] <;> omega
      · simp only [h, if_false] <;> omega
  · cases hi with
    | none => simp [sliceBounds, HT.sIx]
    | some i =>
      simp only [sliceBounds, HT.sIx, Option.getD_none, show (1 : Int) > 0 by decide, if_true]
      by_cases h : i < 0
      · simp only [h, if_true] <;> omega
      · simp only [h, if_false] <;> omega
theorem slicePick_cut (its : List Value) (lo hi : Option Int) : slicePick its.toArray lo hi none = ((its.drop (HT.sIx its.length 0 lo)).take (HT.sIx its.length its.length hi - HT.sIx its.length 0 lo)).toArray := by
  obtain ⟨h1, h2, h3⟩ := slice_bounds lo hi its.toArray.size
  unfold slicePick
  rw [h1, h2, h3]
  simp only [sliceRange_one, pick_run, List.size_toArray] <;> rfl
def rSlL (K : PySem.W.Frag) : V → Option Int → Option Int → Hp → VK → Prop := fun x lo hi H Q => ∃ a xs, x = .ref a ∧ SqL K H a xs ∧ ∀ p, H p = none → Q (.ref p) (upd H p (.lst (cutV xs lo hi)))
theorem sl_list : SlR X (rSlL X.K) := by
  intro pins s σ H x v vl vu lo hi sl Q I rx hs pl pu h
  obtain ⟨a, xs, rfl, hx, q⟩ := h
  cases rx
  obtain ⟨its, r, ht, hz⟩ := I.list hx
  have hlen := r.length
  refine ⟨"list", _, slot_list_getitem.lookup, ht.isList.typeIs, ?_⟩
  refine wpAny_getItem_list_slice ht.isList hs pl pu .none (by simp) ?_ (by rw [List.size_toArray] <;> omega)
  rw [slicePick_cut, ← hlen]
  refine ⟨.ref s.heap.objs.size, _, I.laid (t' := s.toks) (o := .lst (cutV xs lo hi)) (fun b ob q => Heap.get?_push_of_some _ q) (Nat.le_refl _) ?_, rfl, q _ (I.hok.fresh (Nat.le_refl _))⟩
  exact ⟨Nat.le_trans (cutV_length xs lo hi) hz, _, 0, (r.drop (HT.sIx xs.length 0 lo)).take (HT.sIx xs.length xs.length hi - HT.sIx xs.length 0 lo), Heap.get?_push_size _ rfl⟩
theorem call_len_seq : CallR X (.builtin "len") (fun xs H Q => ∃ p ys, xs = [.ref p] ∧ (SqL X.K H p ys ∨ SqT X.K H p ys) ∧ Q (.int ys.length) H) := by
  intro pins s σ H xs us Q I r h
  obtain ⟨p, ys, rfl, hq, q⟩ := h
  obtain ⟨u, rfl, rx⟩ := vals1 r
  cases rx
  have hn := line63
  rcases hq with hq | hq
  · obtain ⟨its, r', pl, hz⟩ := I.list hq
    have hlen := r'.length
    exact Calls.call_len_list pl.isList (by simp only [List.size_toArray] <;> omega) ⟨.int ys.length, H, I.tok _, ⟨s.toks + 1, by rw [List.size_toArray, hlen]⟩, q⟩
  · obtain ⟨its, r', pl, hz⟩ := I.tuple hq
    have hlen := r'.length
    exact len_tuple pl (by simp only [List.size_toArray] <;> omega) ⟨.int ys.length, H, I.tok _, ⟨s.toks + 1, by rw [List.size_toArray, hlen]⟩, q⟩
theorem CallR.or {f : Value} {r r' : List V → Hp → VK → Prop} (h : CallR X f r) (h' : CallR X f r') : CallR X f (fun xs H Q => r xs H Q ∨ r' xs H Q) := by
  intro pins s σ H xs us Q I rs q
  rcases q with q | q
  · exact h pins s σ H xs us Q I rs q
  · exact h' pins s σ H xs us Q I rs q
theorem call_list_of : CallR X (.type "list") (fun xs H Q => ∃ p ys, xs = [.ref p] ∧ (SqL X.K H p ys ∨ SqT X.K H p ys) ∧ ∀ l, H l = none → Q (.ref l) (upd H l (.lst ys))) := by
  intro pins s σ H xs us Q I r h
  obtain ⟨p, ys, rfl, hq, q⟩ := h
  obtain ⟨u, rfl, rx⟩ := vals1 r
  cases rx
  have fin : ∀ (its : List Value), Vals ys its → ys.length ≤ sizeLine → ∀ (h' : Heap) (c' : Nat), (∀ b o', s.heap.get? b = some o' → h'.get? b = some o') →
      h'.get? s.heap.objs.size = some { cls := .type "list", dict := none, data := .seq its.toArray c', slots := #[] } → EP X pins σ Q (.ref s.heap.objs.size) { s with heap := h' } := fun its r' hz h' c' kp e =>
    ⟨.ref s.heap.objs.size, _, I.laid (t' := s.toks) kp (Nat.le_refl _) (show ObjOk X.prog X.w _ h' _ (.lst ys) from ⟨hz, its, c', r', e⟩), rfl, q _ (I.hok.fresh (Nat.le_refl _))⟩
  rcases hq with hq | hq
  · obtain ⟨its, r', pl, hz⟩ := I.list hq
    have hlen := r'.length
    obtain ⟨o, ho, hc, n, hd⟩ := pl.isList
    exact call_list_seq p (.inl rfl) ho hc hd (fun h' c' kp e => fin its r' hz h' c' kp e) (by simp only [List.size_toArray] <;> omega)
  · obtain ⟨its, r', pl, hz⟩ := I.tuple hq
    have hlen := r'.length
    obtain ⟨o, ho, hc, n, hd⟩ := pl
    exact call_list_seq p (.inr rfl) ho hc hd (fun h' c' kp e => fin its r' hz h' c' kp e) (by simp only [List.size_toArray] <;> omega)
def tyV (K : PySem.W.Frag) (T : String) (x : V) (H : Hp) : Prop := match x with
  | .str _ => T = "str"
  | .int _ => T = "int"
  | .ref p => (T = "list" ∧ ∃ xs, SqL K H p xs) ∨ (T = "tuple" ∧ ∃ o, K.lookup p = some o ∧ o.cls = .type "tuple" ∧ o.dict = none) ∨
      (T = "dict" ∧ ((∃ kvs, H p = some (.dK kvs)) ∨ ∃ kvs, H p = some (.dT kvs))) ∨ (T = "set" ∧ ∃ S n, H p = some (.set S n))
  | _ => False
theorem tyV_is {pins : List (Addr × Obj)} {σ : St} {H : Hp} {s : Shared} {T : String} {x : V} {v : Value} (I : Inv X pins σ H s) (r : RelV x v) (ty : tyV X.K T x H) :
    s.TypeIs v T ∧ ∀ a, v = .ref a → ∃ ob, s.heap.get? a = some ob ∧ ob.dict = none := by
  cases x with
  | str z =>
    obtain ⟨t, rfl⟩ := r
    cases (show T = "str" from ty)
    exact ⟨typeIs_str s z t, fun _ e => nomatch e⟩
  | int i =>
    obtain ⟨t, rfl⟩ := r
    cases (show T = "int" from ty)
    exact ⟨typeIs_int s i t, fun _ e => nomatch e⟩
  | ref p =>
    cases r
    rcases ty with ⟨rfl, xs, hq⟩ | ⟨rfl, o, hk, hc, hd⟩ | ⟨rfl, hk⟩ | ⟨rfl, S, n, hk⟩
    · obtain ⟨its, _, pl, _⟩ := I.list hq
      refine ⟨pl.isList.typeIs, fun a e => ?_⟩
      cases e
      obtain ⟨o, n, e, c, hd, _⟩ := pl
      exact ⟨o, e, hd⟩
    · refine ⟨⟨o, I.kIn p o hk, hc⟩, fun a e => ?_⟩
      cases e
      exact ⟨o, I.kIn _ o hk, hd⟩
    · have z : ∃ o, s.heap.get? p = some o ∧ o.ExactDict := by
        rcases hk with ⟨kvs, hk⟩ | ⟨kvs, hk⟩
        · obtain ⟨_, _, _, _, o, _, _, e, ex, _⟩ := I.hok p _ hk
          exact ⟨o, e, ex⟩
        · obtain ⟨_, _, _, _, o, _, _, e, ex, _⟩ := I.hok p _ hk
          exact ⟨o, e, ex⟩
      obtain ⟨o, e, ex⟩ := z
      refine ⟨⟨o, e, ex.1⟩, fun a e2 => ?_⟩
      cases e2
      exact ⟨o, e, ex.2.1⟩
    · obtain ⟨o, _, _, _, e, ex, _⟩ := I.hok p _ hk
      refine ⟨⟨o, e, ex.1⟩, fun a e2 => ?_⟩
      cases e2
      exact ⟨o, e, ex.2.1⟩
  | _ => exact False.elim ty
def tBM0 (K : PySem.W.Frag) (T : String) (r : V → List V → Hp → VK → Prop) (to : TE) : TE := fun σ H Q => to σ H fun x H1 => tyV K T x H1 ∧ r x [] H1 Q
def tBM (K : PySem.W.Frag) (T : String) (r : V → List V → Hp → VK → Prop) (to : TE) (t : TA) : TE := fun σ H Q => to σ H fun x H1 => tyV K T x H1 ∧ t σ H1 fun xs H2 => r x xs H2 Q
variable {o e : Expr} {es : List Expr} {to : TE} {t : TA} {name : Str} {apos cpos : Pos} {T id : String} {r : V → List V → Hp → VK → Prop}
theorem pe_bm0 (pa : PlainAttrs T) (slot : Slot T name id) (hty : typeOf (.builtin id) = pure (.type "method_descriptor")) (hm : MtR X id r) (ho : PE X o to)
    (hbase : attributeBase o name X.env (eval o X.env) = eval o X.env := by rfl) (hline : (apos.endLine == cpos.line) = true := by rfl) : PE X (.Call (.Attribute o name apos) [] [] cpos) (tBM0 X.K T r to) := by
  intro pins s σ H Q I h
  refine wpAny_Call_method0_late hbase hline (thn (ho pins s σ H _ I h) fun v s1 ⟨x, H1, I1, r1, ty, q1⟩ => ?_)
  obtain ⟨h1, h2⟩ := tyV_is I1 r1 ty
  exact ⟨T, id, pa, slot, hty, h1, h2, Calls.callWith_builtin rfl (PySem.evalArgs_none (hm pins s1 σ H1 x [] v [] Q I1 r1 .nil q1))⟩
theorem pe_bm (pa : PlainAttrs T) (slot : Slot T name id) (hty : typeOf (.builtin id) = pure (.type "method_descriptor")) (hm : MtR X id r) (ho : PE X o to) (ha : PA X (e :: es) t)
    (hbase : attributeBase o name X.env (eval o X.env) = eval o X.env := by rfl)
    (hfew : ((backTo cpos (starEach (e :: es) X.env)).all (fun x => !x.1) && (backToKw cpos (keywordEach [] X.env)).all (fun x => x.1.isSome)
      && decide ((e :: es).length + ([] : List Keyword).length + (if ([] : List Keyword).isEmpty then 0 else 1) < 30)) = true := by rfl)
    (hline : (apos.endLine == cpos.line) = true := by rfl) (hs : starEach (e :: es) X.env = (false, eval e X.env) :: starEach es X.env := by rfl) (hplain : (backTo cpos (starEach es X.env)).any (·.1) = false := by rfl) :
    PE X (.Call (.Attribute o name apos) (e :: es) [] cpos) (tBM X.K T r to t) := by
  intro pins s σ H Q I h
  refine wpAny_Call_method_late hbase hfew hline rfl (thn (ho pins s σ H _ I h) fun v s1 ⟨x, H1, I1, r1, ty, q1⟩ => ?_)
  obtain ⟨h1, h2⟩ := tyV_is I1 r1 ty
  refine ⟨T, id, pa, slot, hty, h1, h2, ?_⟩
  have hA := ha cpos pins s1 σ H1 _ I1 q1
  rw [hs] at hA ⊢
  refine Calls.callWith_builtin (by show (false || (backTo cpos (starEach es X.env)).any (·.1)) = false; rw [hplain] <;> rfl) (Calls.evalArgs_plain ?_)
  exact thn hA fun us s2 ⟨vs, H2, I2, r2, q2⟩ => hm pins s2 σ H2 x vs v us Q I2 r1 r2 q2
end
end L2
namespace L2
open PySem PySem.Spec PyProof.Rows
def MtM (X : Cx) (id : String) (r : V → List V → Hp → VK → Prop) : Prop :=
  ∀ (pins : List (Addr × Obj)) (s : Shared) (σ : St) (H : Hp) (x : V) (xs : List V) (v : Value) (us : List Value) (Q : VK), Inv X pins σ H s → RelV x v → Vals xs us → r x xs H Q →
    wpAny (model X.prog X.w) X.A (call (.builtin id) (v :: us)) (EP X pins σ Q) X.xe s
theorem Vals.one : ∀ {x : V} {us : List Value}, Vals [x] us → ∃ u, us = [u] ∧ RelV x u
  | _, _, .cons r .nil => ⟨_, rfl, r⟩
theorem Vals.zero : ∀ {us : List Value}, Vals [] us → us = []
  | _, .nil => rfl
section
variable {X : Cx} {pins : List (Addr × Obj)} {σ : St} {H : Hp} {s : Shared} {l b : Addr} {xs ys zs : List V}
theorem Inv.lset {its its' : List Value} {n : Nat} {f : Array Value → Array Value} {t' : Nat} (I : Inv X pins σ H s) (hH : H l = some (.lst xs))
    (e : s.heap.get? l = some { cls := .type "list", data := .seq its.toArray n }) (hf : f its.toArray = its'.toArray) (hv : Vals ys its') (hz : ys.length ≤ sizeLine) :
    Inv X pins σ (upd H l (.lst ys)) { s with heap := s.heap.update l (Obj.mapSeq f), toks := t' } := by
  have q := PySem.IsL.update e f
  rw [hf] at q
  refine I.write (x := l) (e := l) (by rw [hH]; exact trivial) (.inl rfl) (fun b' u hb hu => (Heap.get?_update_other s.heap (Obj.mapSeq f) (Ne.symm hb)).trans hu) ⟨_, q⟩ ?_
  exact ⟨hz, its', _, hv, q⟩
theorem Inv.lnew {its : List Value} {t' : Nat} (I : Inv X pins σ H s) (hv : Vals ys its) (hz : ys.length ≤ sizeLine) :
    Inv X pins σ (upd H s.heap.objs.size (.lst ys)) { s with heap := s.heap.push { cls := .type "list", data := .seq its.toArray }, toks := t' } :=
  I.laid (fun _ _ q => Heap.get?_push_of_some _ q) (Nat.le_refl _) ⟨hz, its, 0, hv, Heap.get?_push_size _ rfl⟩
theorem Inv.fresh (I : Inv X pins σ H s) : H s.heap.objs.size = none := I.hok.fresh (Nat.le_refl _)
theorem Inv.lstM (I : Inv X pins σ H s) (hH : H l = some (.lst xs)) : xs.length ≤ sizeLine ∧ ∃ (its : List Value) (n : Nat), Vals xs its ∧ xs.length = its.length ∧ s.heap.get? l = some { cls := .type "list", data := .seq its.toArray n } := by
  obtain ⟨z, its, n, r, e⟩ := I.hok l _ hH
  exact ⟨z, its, n, r, r.length, e⟩
end
section
variable {X : Cx}
def rAppend : V → List V → Hp → VK → Prop := fun x vs H Q => ∃ l xs y, x = .ref l ∧ vs = [y] ∧ H l = some (.lst xs) ∧ xs.length < sizeLine ∧ Q .non (upd H l (.lst (xs ++ [y])))
theorem mt_append : MtM X "list.append" rAppend := by
  intro pins s σ H x vs v us Q I rx rv h
  obtain ⟨l, xs, y, rfl, rfl, hH, hz, q⟩ := h
  cases rx
  obtain ⟨u, rfl, ru⟩ := rv.one
  obtain ⟨z, its, n, r, hl, e⟩ := I.lstM hH
  refine call_meets F.slot_list_append ⟨_, e, rfl⟩ F.entry_list_append (F.args_list_append_2 _ _) (PySem.list_append l its.toArray n u (by rw [List.size_toArray]; omega)) ⟨e, ?_⟩
  refine ⟨.non, _, I.lset (its' := its ++ [u]) hH e (by simp) (r.append (.cons ru .nil)) ?_, rfl, q⟩
  rw [List.length_append, List.length_singleton]
  omega
def rClear : V → List V → Hp → VK → Prop := fun x vs H Q => ∃ l xs, x = .ref l ∧ vs = [] ∧ H l = some (.lst xs) ∧ Q .non (upd H l (.lst []))
theorem mt_clear : MtM X "list.clear" rClear := by
  intro pins s σ H x vs v us Q I rx rv h
  obtain ⟨l, xs, rfl, rfl, hH, q⟩ := h
  cases rx
  have hus := rv.zero
  subst hus
  obtain ⟨z, its, n, r, hl, e⟩ := I.lstM hH
  refine call_meets F.slot_list_clear ⟨_, e, rfl⟩ F.entry_list_clear (F.args_list_clear_1 _) (AutoSeq1.list_clear_list_0 l its.toArray n (by rw [List.size_toArray]; omega)) ⟨e, ?_⟩
  exact ⟨.non, _, I.lset (its' := []) (ys := []) hH e rfl .nil (Nat.zero_le _), rfl, q⟩
def rCat : R2 := fun x y H Q => ∃ l b xs zs, x = .ref l ∧ y = .ref b ∧ H l = some (.lst xs) ∧ H b = some (.lst zs) ∧ xs.length + zs.length ≤ sizeLine ∧ ∀ p, H p = none → Q (.ref p) (upd H p (.lst (xs ++ zs)))
theorem op_cat : OpR X (binaryOp .Add) rCat := by
  intro pins s σ H x y v u Q I rx ry h
  obtain ⟨l, b, xs, zs, rfl, rfl, hH, hB, hz, q⟩ := h
  cases rx
  cases ry
  obtain ⟨z, its, n, r, hl, e⟩ := I.lstM hH
  obtain ⟨z2, its2, n2, r2, hl2, e2⟩ := I.lstM hB
  refine PySem.P.add_list e e2 ?_ (by rw [List.size_toArray, List.size_toArray]; omega)
  have ea : its.toArray ++ its2.toArray = (its ++ its2).toArray := by simp
  rw [ea]
  exact ⟨.ref _, _, I.lnew (t' := s.toks) (r.append r2) (by rw [List.length_append]; omega), rfl, q _ I.fresh⟩
end
section
variable {prog : Program} {w : World} {A : Around} {E : Value → Shared → Prop} {s : Shared}
end
section
variable {X : Cx}
end
end L2
namespace Att
open PySem PySem.W PySem.Calls PyProof.Rows
theorem ints_of_wellAll {P : Params} {h : Heap} : ∀ (ns : List Int) (vs : List Value), WellAll P h vs (ns.map WData.int) → IntsAre vs ns := by
  intro ns
  induction ns with
  | nil =>
    intro vs w
    rw [List.map_nil] at w
    cases w
    exact .nil
  | cons n ns ih =>
    intro vs w
    rw [List.map_cons] at w
    cases w with
    | cons a b =>
      cases a
      exact .cons _ _ (ih _ b)
theorem script_of {l : OpenLaw} {n : Nat} (hn : l.most = some n) {P : Params} {h : Heap} {args : List WData} {vals : List Value}
    (hpre : l.row.toRowW.claim.pre args = true) (hwl : WellAll P h vals args) :
    ∃ a vs ns, vals = [Value.ref a] ∧ args = [WData.list (ns.map WData.int)] ∧ h.get? a = some { cls := .type "list", data := .seq vs.toArray } ∧ IntsAre vs ns ∧ ns.length ≤ n := by
  have hsh : WShape.hasAll [] args [.list .int] = true := (pre_splitW hpre).1
  have hc : l.pre.holds [] { args := args } = true := (pre_splitW hpre).2
  obtain ⟨d, r, rfl, h1, h2⟩ := hasAllW_cons hsh
  obtain rfl := hasAllW_nil h2
  obtain ⟨xs, rfl, h3⟩ := hasW_list h1
  obtain ⟨ns, rfl⟩ := items_int h3
  have hlen : ns.length ≤ n := by
    unfold OpenLaw.pre at hc
    have h4 : (WTm.not (.lt (.lit (.int (n : Int))) (.len (.arg 0)))).holds [] { args := [.list (ns.map .int)] } = true := by
      have h4 := (holds_andW hc).1
      rw [hn] at h4
      exact h4
    have h5 := condW_of h4 (w_not (w_lt w_lit (w_len_list (w_arg rfl))))
    rw [List.length_map] at h5
    refine Nat.le_of_not_lt fun q => ?_
    have q' : (n : Int) < ((ns.length : Nat) : Int) := by omega
    first
      | (rw [decide_eq_true q'] at h5; exact absurd h5 (by decide))
      | (simp at h5; omega)
  cases hwl with
  | cons w1 w2 =>
    cases w2
    cases w1 with
    | list ho hall => exact ⟨_, _, ns, rfl, rfl, ho, ints_of_wellAll ns _ hall, hlen⟩
theorem post_true (l : OpenLaw) (args : List WData) : l.row.toRowW.claim.post args (.bool true) args = true :=
  postW_of (r := l.row.toRowW) (X := (true == true))
    (show WShape.has [] (.bool true) .bool = true by first | rfl | decide | simp [WShape.has, WShape.arms, WShape.armsAll])
    (show (WTm.eq .res (.lit (.bool true))).value [] { args := args, res := some (.bool true), after := args } = some (.bool (true == true)) from w_eq_bool (w_res rfl) w_lit) rfl
theorem attach_call {l : OpenLaw} {n : Nat} {q : Program} {loose : List Str} {XP : (Str → Option Value) → Heap → Prop} {YP : World → Heap → Prop} {d : DefRec}
    (hn : l.most = some n) (hdf : d.params.defaults = [])
    (call : ∀ (w : World) (s₀ s₁ : Shared) (mg mb : Str → Option Value) (fa : Addr) (o : Obj) (pm cd doc : Value) (a : Addr) (vs : List Value) (ns : List Int),
      Ground q loose [] XP w s₀ mg mb s₁.heap → YP w s₁.heap →
      s₁.heap.get? fa = some o → o.data = .func (docDef d.name d.params d.body d.scope pm cd doc) → s₁.heap.CodeRec cd d.name → mg d.name = some (.ref fa) →
      s₁.heap.get? a = some { cls := .type "list", data := .seq vs.toArray } → IntsAre vs ns → ns.length ≤ n → s₁.gens = #[] →
      codeAny (model l.prog w) callerA (.call (.ref fa) ⟨[.ref a], []⟩) (fun r s' => r = .ok (.ret (.bool true)) ∧ OldK s₁.heap s'.heap ∧ s'.os = s₁.os ∧ AllBare s'.gens) s₁) :
    WalkO q loose XP YP l.row.toRowW d [] (fun f vs => PySem.call f vs) := by
  intro w s₀ s₁ mg mb G Y fa o pm cd doc dV kV ho hd hcd hD hmg hg args vals as hpre hlay hrd hwl hlo
  obtain rfl : dV = .none := Dflts.none hD hdf
  obtain rfl : kV = .none := Dflts.noKw hD
  obtain ⟨a, vs, ns, rfl, rfl, hobj, hints, hlen⟩ := script_of hn hpre hwl
  refine enter_call (codeAny_mono (call w s₀ s₁ mg mb fa o pm cd doc a vs ns G Y ho (fd_plain hd) hcd hmg hobj hints hlen hg) fun r s' hq => ?_)
  obtain ⟨rfl, h2, h3, h4⟩ := hq
  exact ⟨.inl ⟨.bool true, .bool true, [], rfl, fun _ => rfl, .bool true, post_true l _, fun _ => ⟨List.Pairwise.nil, fun _ hm => (nomatch hm)⟩⟩, h2, h3, h4⟩
section
variable {prog : Program} {w : World} {A : Around} {E : Value → Shared → Prop} {s : Shared} {K : Frag}
end
end Att
namespace L2
open PySem PySem.Spec PyProof.Rows
theorem vals_ints : ∀ {vs : List Value} {ns : List Int}, IntsAre vs ns → Vals (ns.map V.int) vs
  | _, _, .nil => .nil
  | _, _, .cons n t h => .cons ⟨t, rfl⟩ (vals_ints h)
def Only (H : Hp) : Prop := ∀ b, H b = none ∨ ∃ o xs, H b = some (.frz o (.lst xs))
theorem law_call {P : Program} {w : World} {K : PySem.W.Frag} {mg mb : Str → Option Value} {CX : CXT} {k : Nat} {fa a : Addr} {fd : FuncData} {x : Str} {sp : Sp} {s₁ : Shared} {vs : List Value} {ns : List Int}
    (KX : K.In s₁.heap) (hns : s₁.heap.Ns mainGlobals mg) (hb : s₁.heap.Ns builtinsNs mb) (hbb : ∀ x : Str, x ≠ "__name__" → mb x = bootBuiltins x) (hlim : s₁.heap.NoLimit) (hg : s₁.gens = #[])
    (ha : s₁.heap.get? a = some { cls := .type "list", data := .seq vs.toArray }) (hi : IntsAre vs ns) (hl : ns.length ≤ sizeLine) (hr : Room k callerA)
    (F : ∀ base : Heap, K.In base → base.Ns mainGlobals mg → FnOk P w K mg base CX k fa fd [x] sp) (hbind : ∀ (s : Shared) (u : Value), BindsTo s fd ⟨[u], []⟩ [(x, u)])
    (hsp : ∀ H : Hp, Only H → SqL K H a (ns.map V.int) → sp [.ref a] H (fun v _ => v = .bl true) fun _ _ _ => False)
    (hCX : ∀ H e s', CX [] H s₁ (fun _ _ _ => False) e s' → False) :
    codeAny (model P w) callerA (.call (.ref fa) ⟨[.ref a], []⟩) (fun r s' => r = .ok (.ret (.bool true)) ∧ OldK s₁.heap s'.heap ∧ s'.os = s₁.os ∧ AllBare s'.gens) s₁ := by
  have rv := vals_ints hi
  have lenV := hi.length
  -- from an abstract heap in which nothing but the script may be tracked
  have core : ∀ H : Hp, Only H → SqL K H a (ns.map V.int) → HOk P w H s₁.heap → (∀ b, H b ≠ none → b = a) → (H a ≠ none → K.lookup a = none) →
      codeAny (model P w) callerA (.call (.ref fa) ⟨[.ref a], []⟩) (fun r s' => r = .ok (.ret (.bool true)) ∧ OldK s₁.heap s'.heap ∧ s'.os = s₁.os ∧ AllBare s'.gens) s₁ := by
    intro H hO hS hok hA hK
    have base_of : ∀ {b : Addr} {o : Obj}, s₁.heap.get? b = some o → H b = none → (hidT s₁.heap H).get? b = some o := fun e n => hidT_get e n
    have noA : ∀ {b : Addr} {o : Obj} {es : Array DictEntry} {ep : Nat}, s₁.heap.get? b = some o → o.data = .dict es ep → H b = none := fun {b o es ep} e d => by
      cases q : H b with
      | none => rfl
      | some u =>
        have e' : b = a := hA b (by rw [q]; simp)
        subst e'
        rw [ha] at e; cases e
        have d' : Data.seq vs.toArray _ = Data.dict es ep := d
        cases d'
    have nsK : ∀ {b : Addr} {m : Str → Option Value}, s₁.heap.Ns b m → (hidT s₁.heap H).Ns b m := fun {b m} ⟨o, es, ep, e, d, r⟩ => ⟨o, es, ep, base_of e (noA e d), d, r⟩
    have hKb : K.In (hidT s₁.heap H) := fun b o e => base_of (KX b o e) (by
      cases q : H b with
      | none => rfl
      | some u =>
        have e' : b = a := hA b (by rw [q]; simp)
        subst e'
        rw [hK (by rw [q]; simp)] at e; cases e)
    have hM : Mod K mg (hidT s₁.heap H) := ⟨hKb, nsK hns, ⟨mb, nsK hb, hbb⟩, let ⟨mc, h1, h2⟩ := hlim; ⟨mc, nsK h1, h2⟩⟩
    have e0 : Env0 P w K mg (hidT s₁.heap H) callerA [] s₁ H := ⟨rfl, hM, fun b o e => of_hidT e, Nat.le_of_eq (hidT_size _ _), trivial, fun b hb => absurd (show b ∈ ([] : List Addr) from hb) (by simp), hok, .of_eq hg⟩
    refine codeAny_mono ((F _ hKb (nsK hns)).run callerA [] s₁ H ⟨[.ref a], []⟩ [.ref a] [.ref a] _ _ hr e0 (hbind s₁ (.ref a)) (.cons rfl .nil) (hsp H hO hS)) fun r s' h => ?_
    cases r with
    | error e => exact (hCX H e s' h).elim
    | ok fl =>
      cases fl with
      | next => exact False.elim h
      | brk => exact False.elim h
      | cont => exact False.elim h
      | ret u =>
        obtain ⟨v, H', os, bare, un, hok', r', q⟩ := h
        have q' : v = .bl true := q
        subst q'
        obtain rfl : u = Value.bool true := r'
        refine ⟨rfl, OldK.of_keep fun b o e => ?_, os, bare⟩
        cases q : H b with
        | none => exact un.keep b o e q (by intro z; exact absurd (show b ∈ ([] : List Addr) from z) (by simp)) (by simp)
        | some u =>
          rcases hO b with z | ⟨ob, xs, z⟩
          · rw [q] at z; cases z
          · have z2 := un.frzs b ob _ z
            obtain ⟨e1, _⟩ := hok b _ z
            obtain ⟨e2, _⟩ := hok' b _ z2
            rw [e] at e1; cases e1
            exact e2
  cases hk : K.lookup a with
  | some o =>
    -- the script is one of the module's own objects
    have e := KX a o hk
    rw [ha] at e
    cases e
    refine core (fun _ => none) (fun _ => .inl rfl) (.inr ⟨_, vs.toArray, _, hk, rfl, rfl, rfl, by rw [List.size_toArray, lenV]; exact hl, by simpa using rv⟩) (fun b u z => by have z' : (none : Option HO) = some u := z; cases z') (fun b z => absurd rfl z) fun z => absurd rfl z
  | none =>
    refine core (fun b => if b = a then some (.frz { cls := .type "list", data := .seq vs.toArray } (.lst (ns.map V.int))) else none) (fun b => ?_) (.inl (.inr ⟨{ cls := .type "list", data := .seq vs.toArray }, if_pos rfl⟩)) (fun b u z => ?_) (fun b z => ?_) fun _ => hk
    · by_cases hb : b = a
      · exact .inr ⟨_, _, if_pos hb⟩
      · exact .inl (if_neg hb)
    · by_cases hb : b = a
      · have z' := (if_pos hb).symm.trans z
        cases z'
        subst hb
        exact ⟨ha, by rw [List.length_map]; exact hl, vs, _, rv, ha⟩
      · have z' := (if_neg hb).symm.trans z
        cases z'
    · by_cases hb : b = a
      · exact hb
      · exact absurd (if_neg hb) z
end L2
namespace L2
open PySem PySem.Spec PyProof.Rows
theorem walk_of {l : PySem.W.OpenLaw} {n k : Nat} {q : Program} {loose : List Str} {XP : (Str → Option Value) → Heap → Prop} {YP : World → Heap → Prop} {d : DefRec} {K : Params → PySem.W.Frag} {CX : World → CXT} {sp : World → Sp} {x : Str}
    (hn : l.most = some n) (hn2 : n ≤ sizeLine) (hdf : d.params.defaults = []) (hr : Room k callerA)
    (hY : ∀ (w : World) (h : Heap), YP w h → (K w.params).In h)
    (F : ∀ (w : World) (mg : Str → Option Value) (fa : Addr) (h : Heap), (K w.params).In h → h.Ns mainGlobals mg → mg d.name = some (.ref fa) →
      ∃ fd : FuncData, (∀ (s : Shared) (u : Value), BindsTo s fd ⟨[u], []⟩ [(x, u)]) ∧
        ∀ base : Heap, (K w.params).In base → base.Ns mainGlobals mg → FnOk l.prog w (K w.params) mg base (CX w) k fa fd [x] (sp w))
    (hsp : ∀ (w : World) (H : Hp) (a : Addr) (ns : List Int), ns.length ≤ n → Only H → SqL (K w.params) H a (ns.map V.int) → sp w [.ref a] H (fun v _ => v = .bl true) fun _ _ _ => False)
    (hCX : ∀ (w : World) (H : Hp) (s : Shared) (e : Value) (s' : Shared), CX w [] H s (fun _ _ _ => False) e s' → False) :
    PySem.W.WalkO q loose XP YP l.row.toRowW d [] (fun f vs => PySem.call f vs) := by
  refine Att.attach_call hn hdf fun w s₀ s₁ mg mb fa o pm cd doc a vs ns G Y ho hd hcd hmg hobj hints hlen hg => ?_
  have KX := hY w _ Y
  obtain ⟨fd, hb, hF⟩ := F w mg fa _ KX G.T.g hmg
  exact law_call KX G.T.g G.T.b G.T.builtins G.T.nolimit hg hobj hints (Nat.le_trans hlen hn2) hr hF hb (fun H hO hS => hsp w H a ns hlen hO hS) fun H e s' => hCX w H s₁ e s'
end L2
namespace L2
open PySem PySem.Spec PyProof.Rows
def defArgs (s : Stmt) : Arguments := match s with
  | .FunctionDef _ a _ _ _ _ _ _ _ _ => a
  | _ => { posonlyargs := [], args := [], vararg := none, kwonlyargs := [], kw_defaults := [], kwarg := none, defaults := [] }
def defBody (s : Stmt) : List Stmt := match s with
  | .FunctionDef _ _ b _ _ _ _ _ _ _ => b
  | _ => []
def defScope (s : Stmt) : Scope := match s with
  | .FunctionDef _ _ _ _ _ _ sc _ _ _ => sc
  | _ => { kind := .function, names := [], isGenerator := false, isCoroutine := false }
abbrev CX0 : CXT := fun _ _ _ _ _ _ => False
abbrev E0 : XK := fun _ _ _ => False
theorem pass0 {X : Cx} : Passes CX0 X E0 := fun _ _ _ _ _ _ _ h => h.elim
structure Fun (K : PySem.W.Frag) (x qual : Str) (st : Stmt) (f : Addr) (fd : FuncData) : Prop where
  ex : ∃ (oc : Value) (od : Option Addr) (kV doc pm : Value) (an : Option Addr) (cdv ct : Value) (osl : Array (Option Value)),
    fd = PySem.W.fnOf x qual (defArgs st) (defBody st) (defScope st) .none kV doc pm an cdv ct ∧ K.lookup f = some ⟨oc, od, .func fd, osl⟩ ∧ PySem.W.codeIn K cdv qual = true
  kp : PySem.W.keepIn K (.ref f) = true
section
variable {P : Program} {w : World} {K : PySem.W.Frag} {mg : Str → Option Value} {base : Heap}
theorem Fun.ok {x qual : Str} {st : Stmt} {f : Addr} {fd : FuncData} {N ps : List Str} {k : Nat} {sp : Sp} (F : Fun K x qual st f fd) (S : FnScope N ps (defScope st)) (len : ∀ vs H Q E, sp vs H Q E → vs.length = ps.length)
    (hbody : ∀ (cdv : Value) (A : Around) (outer : List Env) (s : Shared) (H : Hp) (vs : List V) (Q : VK) (E : XK), Room k (A.deeper (envOfC qual (defScope st) s.heap.objs.size f cdv)) → sp vs H Q E →
      ∃ t, PSs (cxOf CX0 P w K mg base N qual (defScope st) f cdv A outer s H E).nox (defBody st) t ∧ t { nx := fun _ H' => Q .non H', rt := Q } (start N vs) H) : FnOk P w K mg base CX0 (k + 1) f fd ps sp := by
  obtain ⟨oc, od, kV, doc, pm, an, cdv, ct, osl, rfl, lk, hcd⟩ := F.ex
  refine fn_of lk hcd S len fun A outer s H vs Q E hr hsp => ?_
  obtain ⟨t, h, q⟩ := hbody cdv A outer s H vs Q E hr hsp
  exact ⟨t, h.nox, q⟩
theorem Fun.binds {x qual : Str} {st : Stmt} {f : Addr} {fd : FuncData} {ps : List Str} (F : Fun K x qual st f fd)
    (h : ∀ (kV doc pm : Value) (an : Option Addr) (cdv ct : Value) (us : List Value), us.length = ps.length → bindArgs (PySem.W.fnOf x qual (defArgs st) (defBody st) (defScope st) .none kV doc pm an cdv ct) ⟨us, []⟩ = pure (ps.zip us)) : Binds K fd ps [] := by
  obtain ⟨oc, od, kV, doc, pm, an, cdv, ct, osl, rfl, lk, hcd⟩ := F.ex
  exact .all (h kV doc pm an cdv ct)
theorem fun_mk {x qual : Str} {st : Stmt} {f : Addr} {oc : Value} {od an : Option Addr} {osl : Array (Option Value)} {kV doc pm cdv ct : Value} (l : K.lookup f = some ⟨oc, od, .func (PySem.W.fnOf x qual (defArgs st) (defBody st) (defScope st) .none kV doc pm an cdv ct), osl⟩)
    (c : PySem.W.codeIn K cdv qual = true) (k : PySem.W.keepIn K (.ref f) = true) : Fun K x qual st f (PySem.W.fnOf x qual (defArgs st) (defBody st) (defScope st) .none kV doc pm an cdv ct) := ⟨⟨oc, od, kV, doc, pm, an, cdv, ct, osl, rfl, l, c⟩, k⟩
end
section
variable {X : Cx}
theorem pv (i : Nat) {x : Str} {pos : Pos} (hN : X.N[i]? = some x := by rfl) (hv : Vis X.env.scope x := by first | exact Or.inl rfl | exact Or.inr (Or.inl rfl) | exact Or.inr (Or.inr rfl)) (hd : (x == ("__debug__" : Str)) = false := by decide)
    (hcd : (x == ("__classdict__" : Str)) = false := by decide) : PE X (.Name x pos) (tVar i) := pe_var hN hv hd hcd
end
theorem iteF {A B : Prop} (h : B) : if false = true then A else B := by
  rw [if_neg Bool.false_ne_true]
  exact h
theorem iteT {A B : Prop} (h : A) : if true = true then A else B := by
  rw [if_pos rfl]
  exact h
theorem ite2 {c A B : Prop} [Decidable c] (h1 : c → A) (h2 : ¬ c → B) : if c then A else B := by
  by_cases h : c
  · rw [if_pos h]
    exact h1 h
  · rw [if_neg h]
    exact h2 h
def Same (H H' : Hp) : Prop := ∀ b o, H b = some o → H' b = some o
theorem Same.refl (H : Hp) : Same H H := fun _ _ h => h
theorem Same.trans {H H1 H2 : Hp} (a : Same H H1) (b : Same H1 H2) : Same H H2 := fun c o h => b c o (a c o h)
theorem Same.free {H H' : Hp} (e : Same H H') {l : Addr} (h : H' l = Option.none) : H l = Option.none := by
  cases q : H l with
  | none => rfl
  | some o =>
    rw [e l o q] at h
    cases h
theorem Same.seq {K : PySem.W.Frag} {H H' : Hp} {a : Addr} {xs : List V} (e : Same H H') (h : SqL K H a xs) : SqL K H' a xs := by
  rcases h with (h | ⟨o, h⟩) | h
  · exact .inl (.inl (e _ _ h))
  · exact .inl (.inr ⟨o, e _ _ h⟩)
  · exact .inr h
end L2
set_option Elab.async false
set_option linter.all false
set_option maxRecDepth 100000
set_option maxHeartbeats 4000000
namespace L2
open PySem PySem.Spec PyProof.Rows
section
variable {X : Cx}
def CBig (i j : Int) : Prop := i.natAbs < 2 ^ 1000000 ∧ j.natAbs < 2 ^ 1000000
theorem CBig.ok {i j : Int} (h : CBig i j) : IntMulOk i j :=
  PySem.IntMulOk.of_le (PySem.intBits_le_iff.mpr h.1) (PySem.intBits_le_iff.mpr h.2) (by decide)
theorem op_mulB : OpR X (binaryOp .Mult) (rI CBig fun i j => .int (i * j)) := opI fun _ _ _ _ _ _ _ hc q => mul_int q hc.ok
def CDivB (_i j : Int) : Prop := j ≠ 0 ∧ j.natAbs < 2 ^ 8999
theorem op_fdivB : OpR X (binaryOp .FloorDiv) (rI CDivB fun i j => .int (i.fdiv j)) := opI fun _ j _ _ _ _ _ hc q => by
  refine floordiv_int hc.1 q (.inl (PyProof.noPylong_of_log2 ?_))
  have h0 : j.natAbs ≠ 0 := by have := hc.1; omega
  have := (Nat.log2_lt h0).mpr hc.2
  omega
theorem bt_abs : bootBuiltins "abs" = some (.builtin "abs") := by decide +kernel
theorem bt_len : bootBuiltins "len" = some (.builtin "len") := by decide +kernel
theorem bt_isinstance : bootBuiltins "isinstance" = some (.builtin "isinstance") := by decide +kernel
theorem bt_int : bootBuiltins "int" = some (.type "int") := by decide +kernel
theorem bt_bool : bootBuiltins "bool" = some (.type "bool") := by decide +kernel
theorem bt_tuple : bootBuiltins "tuple" = some (.type "tuple") := by decide +kernel
theorem bt_list : bootBuiltins "list" = some (.type "list") := by decide +kernel
def dictO (a : Addr) : HO := .ext fun h => ∃ o, h.get? a = some o ∧ o.cls = .type "dict"
def tyN (K : PySem.W.Frag) (H : Hp) (x : V) (T : String) : Prop := match x with
  | .non => T = "NoneType"
  | .bl _ => T = "bool"
  | .int _ => T = "int"
  | .str _ => T = "str"
  | .ref p => (T = "list" ∧ ∃ xs, SqL K H p xs) ∨ (T = "tuple" ∧ ∃ xs, SqT K H p xs) ∨ (T = "dict" ∧ H p = some (dictO p))
  | _ => False
theorem tyN_is {pins : List (Addr × Obj)} {σ : St} {H : Hp} {s : Shared} {T : String} {x : V} {v : Value} (I : Inv X pins σ H s) (r : RelV x v) (ty : tyN X.K H x T) : s.TypeIs v T := by
  cases x with
  | non => cases r; cases (show T = "NoneType" from ty); rfl
  | bl b => cases r; cases (show T = "bool" from ty); rfl
  | int i => obtain ⟨t, rfl⟩ := r; cases (show T = "int" from ty); exact typeIs_int s i t
  | str z => obtain ⟨t, rfl⟩ := r; cases (show T = "str" from ty); exact typeIs_str s z t
  | ref p =>
    cases r
    rcases ty with ⟨rfl, xs, hq⟩ | ⟨rfl, xs, hq⟩ | ⟨rfl, hq⟩
    · obtain ⟨its, _, pl, _⟩ := I.list hq
      exact pl.isList.typeIs
    · obtain ⟨its, _, ⟨o, e, c, _⟩, _⟩ := I.tuple hq
      exact ⟨o, e, c⟩
    · obtain ⟨⟨o, e, c⟩, _⟩ := I.hok p _ hq
      exact ⟨o, e, c⟩
  | _ => exact False.elim ty
theorem isi_gen {pins : List (Addr × Obj)} {σ : St} {H : Hp} {s : Shared} {Tx T : String} {b : Bool} {x : V} {v : Value} {Q : VK} (hne : b = false → (Value.type Tx == Value.type T) = false)
    (hty : typeOf (.type T) = pure (.type "type")) (hsub : isSubtype (.type Tx) (.type T) = pure b) (I : Inv X pins σ H s) (r : RelV x v) (ht : tyN X.K H x Tx) (q : Q (.bl b) H) :
    wpAny (model X.prog X.w) X.A (call (.builtin "isinstance") [v, .type T]) (EP X pins σ Q) X.xe s := by
  cases b with
  | true => exact call_isinstance_yes (tyN_is I r ht) hty hsub ⟨.bl true, H, I, rfl, q⟩
  | false =>
    have hq : EP X pins σ Q (.bool false) { s with toks := s.toks + 1 } := ⟨.bl false, H, I.tok _, rfl, q⟩
    cases x with
    | non => cases r; cases (show Tx = "NoneType" from ht); exact call_isinstance (isinstance_false_none (hne rfl) hty hsub) hq
    | bl b => cases r; cases (show Tx = "bool" from ht); exact call_isinstance (isinstance_false_bool (hne rfl) hty hsub) hq
    | int i => obtain ⟨t, rfl⟩ := r; cases (show Tx = "int" from ht); exact call_isinstance (isinstance_false_int (hne rfl) hty hsub) hq
    | str z => obtain ⟨t, rfl⟩ := r; cases (show Tx = "str" from ht); exact call_isinstance (isinstance_false_str (hne rfl) hty hsub) hq
    | ref p =>
      have ty := tyN_is I r ht
      cases r
      rcases ht with ⟨rfl, xs, hs⟩ | ⟨rfl, xs, hs⟩ | ⟨rfl, hs⟩
      · exact call_isinstance (isinstance_false_list (hne rfl) hty hsub) ⟨ty, hq⟩
      · exact call_isinstance (isinstance_false_tuple (hne rfl) hty hsub) ⟨ty, hq⟩
      · exact call_isinstance (isinstance_false_dict (hne rfl) hty hsub) ⟨ty, hq⟩
    | _ => exact False.elim ht
def isiB (Tx T : String) : Bool := (Tx == T) || (Tx == "bool" && T == "int")
theorem meta_int : typeOf (.type "int") = pure (.type "type") := by kernel_rfl
theorem meta_bool : typeOf (.type "bool") = pure (.type "type") := by kernel_rfl
theorem meta_tuple : typeOf (.type "tuple") = pure (.type "type") := by kernel_rfl
theorem meta_list : typeOf (.type "list") = pure (.type "type") := by kernel_rfl
theorem tyN_in {K : PySem.W.Frag} {H : Hp} {x : V} {T : String} (h : tyN K H x T) : T = "NoneType" ∨ T = "bool" ∨ T = "int" ∨ T = "str" ∨ T = "list" ∨ T = "tuple" ∨ T = "dict" := by
  cases x with
  | non => exact .inl h
  | bl b => exact .inr (.inl h)
  | int i => exact .inr (.inr (.inl h))
  | str z => exact .inr (.inr (.inr (.inl h)))
  | ref p =>
    rcases h with ⟨h, _⟩ | ⟨h, _⟩ | ⟨h, _⟩
    · exact .inr (.inr (.inr (.inr (.inl h))))
    · exact .inr (.inr (.inr (.inr (.inr (.inl h)))))
    · exact .inr (.inr (.inr (.inr (.inr (.inr h)))))
  | _ => exact False.elim h
def rIsi (K : PySem.W.Frag) (T : String) : List V → Hp → VK → Prop := fun xs H Q => ∃ x Tx, xs = [x, .ty T] ∧ tyN K H x Tx ∧ Q (.bl (isiB Tx T)) H
theorem isi_T {T : String} (hty : typeOf (.type T) = pure (.type "type")) (h1 : isSubtype (.type "NoneType") (.type T) = pure (isiB "NoneType" T)) (h2 : isSubtype (.type "bool") (.type T) = pure (isiB "bool" T)) (h3 : isSubtype (.type "int") (.type T) = pure (isiB "int" T))
    (h4 : isSubtype (.type "str") (.type T) = pure (isiB "str" T)) (h5 : isSubtype (.type "list") (.type T) = pure (isiB "list" T)) (h6 : isSubtype (.type "tuple") (.type T) = pure (isiB "tuple" T)) (h7 : isSubtype (.type "dict") (.type T) = pure (isiB "dict" T))
    (hn : ∀ Tx ∈ ["NoneType", "bool", "int", "str", "list", "tuple", "dict"], isiB Tx T = false → (Value.type Tx == Value.type T) = false) : CallR X (.builtin "isinstance") (rIsi X.K T) := by
  intro pins s σ H xs us Q I r h
  obtain ⟨x, Tx, rfl, ht, q⟩ := h
  obtain ⟨u, w', rfl, ru, rw'⟩ := vals2 r
  cases rw'
  rcases tyN_in ht with rfl | rfl | rfl | rfl | rfl | rfl | rfl
  · exact isi_gen (hn _ (by simp)) hty h1 I ru ht q
  · exact isi_gen (hn _ (by simp)) hty h2 I ru ht q
  · exact isi_gen (hn _ (by simp)) hty h3 I ru ht q
  · exact isi_gen (hn _ (by simp)) hty h4 I ru ht q
  · exact isi_gen (hn _ (by simp)) hty h5 I ru ht q
  · exact isi_gen (hn _ (by simp)) hty h6 I ru ht q
  · exact isi_gen (hn _ (by simp)) hty h7 I ru ht q
theorem call_isi_int : CallR X (.builtin "isinstance") (rIsi X.K "int") := isi_T meta_int (by rw [isSubtype_type]; kernel_rfl) (by rw [isSubtype_type]; kernel_rfl) (by rw [isSubtype_type]; kernel_rfl) (by rw [isSubtype_type]; kernel_rfl) (by rw [isSubtype_type]; kernel_rfl) (by rw [isSubtype_type]; kernel_rfl) (by rw [isSubtype_type]; kernel_rfl) (by decide +kernel)
theorem call_isi_bool : CallR X (.builtin "isinstance") (rIsi X.K "bool") := isi_T meta_bool (by rw [isSubtype_type]; kernel_rfl) (by rw [isSubtype_type]; kernel_rfl) (by rw [isSubtype_type]; kernel_rfl) (by rw [isSubtype_type]; kernel_rfl) (by rw [isSubtype_type]; kernel_rfl) (by rw [isSubtype_type]; kernel_rfl) (by rw [isSubtype_type]; kernel_rfl) (by decide +kernel)
theorem call_isi_tuple : CallR X (.builtin "isinstance") (rIsi X.K "tuple") := isi_T meta_tuple (by rw [isSubtype_type]; kernel_rfl) (by rw [isSubtype_type]; kernel_rfl) (by rw [isSubtype_type]; kernel_rfl) (by rw [isSubtype_type]; kernel_rfl) (by rw [isSubtype_type]; kernel_rfl) (by rw [isSubtype_type]; kernel_rfl) (by rw [isSubtype_type]; kernel_rfl) (by decide +kernel)
theorem call_isi_list : CallR X (.builtin "isinstance") (rIsi X.K "list") := isi_T meta_list (by rw [isSubtype_type]; kernel_rfl) (by rw [isSubtype_type]; kernel_rfl) (by rw [isSubtype_type]; kernel_rfl) (by rw [isSubtype_type]; kernel_rfl) (by rw [isSubtype_type]; kernel_rfl) (by rw [isSubtype_type]; kernel_rfl) (by rw [isSubtype_type]; kernel_rfl) (by decide +kernel)
end
end L2
set_option Elab.async false
set_option linter.all false
set_option maxRecDepth 100000
set_option maxHeartbeats 4000000
namespace L2
open PySem PySem.Spec PyProof.Rows
theorem cx_K {CX : CXT} {P : Program} {w : World} {K : PySem.W.Frag} {mg : Str → Option Value} {base : Heap} {N : List Str} {qual : Str} {scope : Scope} {f : Addr} {cd : Value} {A : Around} {outer : List Env} {s : Shared} {H : Hp} {E : XK} :
    (cxOf CX P w K mg base N qual scope f cd A outer s H E).K = K := rfl
theorem tyN_non {K : PySem.W.Frag} {H : Hp} {T : String} : tyN K H .non T = (T = "NoneType") := rfl
theorem tyN_bl {K : PySem.W.Frag} {H : Hp} {T : String} {b : Bool} : tyN K H (.bl b) T = (T = "bool") := rfl
theorem tyN_int {K : PySem.W.Frag} {H : Hp} {T : String} {i : Int} : tyN K H (.int i) T = (T = "int") := rfl
theorem tyN_str {K : PySem.W.Frag} {H : Hp} {T : String} {x : Str} : tyN K H (.str x) T = (T = "str") := rfl
theorem isi_ii : isiB "int" "int" = true := by decide +kernel
theorem isi_ib : isiB "int" "bool" = false := by decide +kernel
theorem isi_it : isiB "int" "tuple" = false := by decide +kernel
theorem isi_il : isiB "int" "list" = false := by decide +kernel
theorem isi_bi : isiB "bool" "int" = true := by decide +kernel
theorem isi_bb : isiB "bool" "bool" = true := by decide +kernel
theorem isi_ni : isiB "NoneType" "int" = false := by decide +kernel
theorem isi_si : isiB "str" "int" = false := by decide +kernel
theorem isi_ti : isiB "tuple" "int" = false := by decide +kernel
theorem isi_li : isiB "list" "int" = false := by decide +kernel
theorem isi_di : isiB "dict" "int" = false := by decide +kernel
theorem isi_tt : isiB "tuple" "tuple" = true := by decide +kernel
theorem isi_ll : isiB "list" "list" = true := by decide +kernel
theorem scal_ii {i j : Int} : scal (.int i) (.int j) = true := rfl
theorem scal_bb {i j : Bool} : scal (.bl i) (.bl j) = true := rfl
theorem Same.tup {K : PySem.W.Frag} {H H' : Hp} {a : Addr} {xs : List V} (e : Same H H') (h : SqT K H a xs) : SqT K H' a xs := by
  rcases h with (h | ⟨o, h⟩) | h
  · exact .inl (.inl (e _ _ h))
  · exact .inl (.inr ⟨o, e _ _ h⟩)
  · exact .inr h
theorem same_new {H : Hp} {p : Addr} (h : H p = none) (o : HO) : Same H (upd H p o) := fun b u q => by rw [upd_ne (ne_of_none q h)]; exact q
theorem cbig {i j : Int} {m n : Nat} (h1 : i.natAbs < 2 ^ m) (h2 : j.natAbs < 2 ^ n) (hm : m ≤ 1000000 := by decide) (hn : n ≤ 1000000 := by decide) : CBig i j :=
  ⟨Nat.lt_of_lt_of_le h1 (Nat.pow_le_pow_right (by decide) hm), Nat.lt_of_lt_of_le h2 (Nat.pow_le_pow_right (by decide) hn)⟩
theorem cdivb {i j : Int} {n : Nat} (h0 : j ≠ 0) (h : j.natAbs < 2 ^ n) (hn : n ≤ 8999 := by decide) : CDivB i j := ⟨h0, Nat.lt_of_lt_of_le h (Nat.pow_le_pow_right (by decide) hn)⟩
def getI (σ : St) (i : Nat) : Int := match σ[i]? with
  | some (some (.int x)) => x
  | _ => 0
theorem sz0 : (0 ≤ sizeLine) = True := eq_true (by decide)
theorem sz1 : (1 ≤ sizeLine) = True := eq_true (by decide)
theorem sz2 : (2 ≤ sizeLine) = True := eq_true (by decide)
theorem sz3 : (3 ≤ sizeLine) = True := eq_true (by decide)
theorem sz4 : (4 ≤ sizeLine) = True := eq_true (by decide)
def NS (e : Expr) : Prop := ∀ es env, starEach (e :: es) env = (false, eval e env) :: starEach es env
theorem ns_Constant {a b c} : NS (Expr.Constant a b c) := fun _ _ => rfl
theorem ns_Name {a b} : NS (Expr.Name a b) := fun _ _ => rfl
theorem ns_Call {a b c d} : NS (Expr.Call a b c d) := fun _ _ => rfl
theorem ns_BinOp {a b c d} : NS (Expr.BinOp a b c d) := fun _ _ => rfl
theorem ns_UnaryOp {a b c} : NS (Expr.UnaryOp a b c) := fun _ _ => rfl
theorem ns_Tuple {a b c} : NS (Expr.Tuple a b c) := fun _ _ => rfl
theorem ns_Subscript {a b c} : NS (Expr.Subscript a b c) := fun _ _ => rfl
theorem ns_Compare {a b c d} : NS (Expr.Compare a b c d) := fun _ _ => rfl
theorem ns_BoolOp {a b c} : NS (Expr.BoolOp a b c) := fun _ _ => rfl
theorem ns_ListComp {a b c d} : NS (Expr.ListComp a b c d) := fun _ _ => rfl
section
variable {X : Cx}
theorem pa1 {e1 : Expr} {t1 : TE} (h1 : PE X e1 t1) (n1 : NS e1) : PA X [e1] (tCons t1 tNil) := (pa_cons h1 pa_nil (n1 _ _))
theorem pa2 {e1 e2 : Expr} {t1 t2 : TE} (h1 : PE X e1 t1) (n1 : NS e1) (h2 : PE X e2 t2) (n2 : NS e2) : PA X [e1, e2] (tCons t1 (tCons t2 tNil)) := (pa_cons h1 (pa_cons h2 pa_nil (n2 _ _)) (n1 _ _))
theorem pa3 {e1 e2 e3 : Expr} {t1 t2 t3 : TE} (h1 : PE X e1 t1) (n1 : NS e1) (h2 : PE X e2 t2) (n2 : NS e2) (h3 : PE X e3 t3) (n3 : NS e3) : PA X [e1, e2, e3] (tCons t1 (tCons t2 (tCons t3 tNil))) := (pa_cons h1 (pa_cons h2 (pa_cons h3 pa_nil (n3 _ _)) (n2 _ _)) (n1 _ _))
theorem pa4 {e1 e2 e3 e4 : Expr} {t1 t2 t3 t4 : TE} (h1 : PE X e1 t1) (n1 : NS e1) (h2 : PE X e2 t2) (n2 : NS e2) (h3 : PE X e3 t3) (n3 : NS e3) (h4 : PE X e4 t4) (n4 : NS e4) : PA X [e1, e2, e3, e4] (tCons t1 (tCons t2 (tCons t3 (tCons t4 tNil)))) := (pa_cons h1 (pa_cons h2 (pa_cons h3 (pa_cons h4 pa_nil (n4 _ _)) (n3 _ _)) (n2 _ _)) (n1 _ _))
theorem pa5 {e1 e2 e3 e4 e5 : Expr} {t1 t2 t3 t4 t5 : TE} (h1 : PE X e1 t1) (n1 : NS e1) (h2 : PE X e2 t2) (n2 : NS e2) (h3 : PE X e3 t3) (n3 : NS e3) (h4 : PE X e4 t4) (n4 : NS e4) (h5 : PE X e5 t5) (n5 : NS e5) : PA X [e1, e2, e3, e4, e5] (tCons t1 (tCons t2 (tCons t3 (tCons t4 (tCons t5 tNil))))) := (pa_cons h1 (pa_cons h2 (pa_cons h3 (pa_cons h4 (pa_cons h5 pa_nil (n5 _ _)) (n4 _ _)) (n3 _ _)) (n2 _ _)) (n1 _ _))
theorem pss2 {e1 e2 : Stmt} {t1 t2 : TS} (h1 : PS X e1 t1) (h2 : PS X e2 t2) : PSs X [e1, e2] (tSeq t1 t2) := (pss_cons h1 (pss_one h2))
theorem pss3 {e1 e2 e3 : Stmt} {t1 t2 t3 : TS} (h1 : PS X e1 t1) (h2 : PS X e2 t2) (h3 : PS X e3 t3) : PSs X [e1, e2, e3] (tSeq t1 (tSeq t2 t3)) := (pss_cons h1 (pss_cons h2 (pss_one h3)))
theorem pss4 {e1 e2 e3 e4 : Stmt} {t1 t2 t3 t4 : TS} (h1 : PS X e1 t1) (h2 : PS X e2 t2) (h3 : PS X e3 t3) (h4 : PS X e4 t4) : PSs X [e1, e2, e3, e4] (tSeq t1 (tSeq t2 (tSeq t3 t4))) := (pss_cons h1 (pss_cons h2 (pss_cons h3 (pss_one h4))))
theorem pss5 {e1 e2 e3 e4 e5 : Stmt} {t1 t2 t3 t4 t5 : TS} (h1 : PS X e1 t1) (h2 : PS X e2 t2) (h3 : PS X e3 t3) (h4 : PS X e4 t4) (h5 : PS X e5 t5) : PSs X [e1, e2, e3, e4, e5] (tSeq t1 (tSeq t2 (tSeq t3 (tSeq t4 t5)))) := (pss_cons h1 (pss_cons h2 (pss_cons h3 (pss_cons h4 (pss_one h5)))))
theorem pss12 {e1 e2 e3 e4 e5 e6 e7 e8 e9 e10 e11 e12 : Stmt} {t1 t2 t3 t4 t5 t6 t7 t8 t9 t10 t11 t12 : TS} (h1 : PS X e1 t1) (h2 : PS X e2 t2) (h3 : PS X e3 t3) (h4 : PS X e4 t4) (h5 : PS X e5 t5) (h6 : PS X e6 t6) (h7 : PS X e7 t7) (h8 : PS X e8 t8) (h9 : PS X e9 t9) (h10 : PS X e10 t10) (h11 : PS X e11 t11) (h12 : PS X e12 t12) : PSs X [e1, e2, e3, e4, e5, e6, e7, e8, e9, e10, e11, e12] (tSeq t1 (tSeq t2 (tSeq t3 (tSeq t4 (tSeq t5 (tSeq t6 (tSeq t7 (tSeq t8 (tSeq t9 (tSeq t10 (tSeq t11 t12))))))))))) := (pss_cons h1 (pss_cons h2 (pss_cons h3 (pss_cons h4 (pss_cons h5 (pss_cons h6 (pss_cons h7 (pss_cons h8 (pss_cons h9 (pss_cons h10 (pss_cons h11 (pss_one h12))))))))))))
end
end L2
set_option Elab.async false
set_option linter.all false
set_option maxRecDepth 100000
set_option maxHeartbeats 4000000
namespace L2
open PySem PySem.Spec PyProof.Rows
section
variable {X : Cx} {pins : List (Addr × Obj)} {σ : St} {H : Hp} {s : Shared} {h' : Heap}
end
section
variable {X : Cx}
end
end L2
set_option Elab.async false
set_option linter.all false
set_option maxRecDepth 100000
set_option maxHeartbeats 4000000
namespace L2
open PySem PySem.Spec PyProof.Rows
section
variable {P : Program} {w : World} {H : Hp} {h : Heap} {a : Addr} {o : HO}
theorem ObjOk.there (x : ObjOk P w H h a o) : ∃ u, h.get? a = some u := by
  cases o with
  | lst xs => obtain ⟨_, _, _, _, e⟩ := x; exact ⟨_, e⟩
  | tup xs => obtain ⟨_, _, _, o, e, _⟩ := x; exact ⟨o, e⟩
  | dK kvs => obtain ⟨_, _, _, _, o, _, _, e, _⟩ := x; exact ⟨o, e⟩
  | dT kvs => obtain ⟨_, _, _, _, o, _, _, e, _⟩ := x; exact ⟨o, e⟩
  | set S n => obtain ⟨o, _, _, _, e, _⟩ := x; exact ⟨o, e⟩
  | ins C dx fs => obtain ⟨_, _, _, e, _⟩ := x; exact ⟨_, e⟩
  | own y => exact x
  | xd fs => obtain ⟨_, ⟨o, _, _, e, _⟩, _⟩ := x; exact ⟨o, e⟩
  | rng lo hi => obtain ⟨_, _, _, e⟩ := x; exact ⟨_, e⟩
  | frz ob u => exact ⟨ob, x.1⟩
  | tbl ps => exact ⟨_, x⟩
  | met f y => exact ⟨_, x⟩
  | ext φ => exact x.2.1
end
section
variable {P : Program} {w : World} {K : PySem.W.Frag} {mg : Str → Option Value} {base : Heap} {N : List Str} {qual : Str} {scope : Scope} {f : Addr} {cd : Value} {A : Around} {outer : List Env} {s₀ : Shared} {H₀ : Hp} {E : XK}
end
section
variable {K : PySem.W.Frag} {h : Heap} {C : Addr} {bmB : List Value} {newId : String}
end
def tRaise (C : Addr) (E : XK) (ta : TA) : TS := fun _ σ H => ta σ H fun vs H1 => vs.length ≤ sizeLine ∧ E (.ref C) none H1
section
variable {X : Cx} {C : Addr} {E : XK} {x : Str} {np cpos pos : Pos} {e : Expr} {es : List Expr} {ta : TA}
end
end L2
set_option Elab.async false
set_option linter.all false
set_option maxRecDepth 100000
set_option maxHeartbeats 4000000
namespace L2
open PySem PySem.Spec PyProof.Rows
structure XI (K : PySem.W.Frag) (D : Addr) : Prop where
  ga : PySem.W.findIn K (.ref D) "__getattribute__" = some (some (.builtin "BaseException.__getattribute__"))
  gn : PySem.W.findIn K (.ref D) "__getattr__" = some none
  cl : PySem.W.findIn K (.ref D) "__class__" = some (some (.builtin "object.__class__"))
  get : PySem.W.specialIn K (.builtin "object.__class__") "__get__" = some (some (.builtin "getset_descriptor.__get__"))
  tk : PySem.W.takesIn K (.builtin "object.__class__") = some true
  ob : PySem.W.mroIn K D (.type "object") = some true
  be : PySem.W.mroIn K D (.type "BaseException") = some true
theorem XI.cls {K : PySem.W.Frag} {D : Addr} (F : XI K D) : (PySem.W.clsIn K D).isSome = true := by
  have z := F.ob
  unfold PySem.W.mroIn at z
  cases q : PySem.W.clsIn K D with
  | none => rw [q] at z; cases z
  | some cd => rfl
def XAt (a D : Addr) (h : Heap) : Prop := ∃ o vs, h.get? a = some o ∧ o.cls = .ref D ∧ o.data = .fields vs
section
variable {prog : Program} {w : World} {A : Around} {E : Value → Shared → Prop} {s : Shared} {K : PySem.W.Frag} {a D : Addr}
theorem XAt.ty {M : Model} {h : Heap} (x : XAt a D h) : PySem.W.Looks M h (typeOf (.ref a)) (.ref D) := by
  obtain ⟨o, vs, e, c, _⟩ := x
  exact c ▸ (PySem.W.Looks.ld e).andThen .now
end
section
variable {X : Cx} {c : Value} {cv : V}
end
abbrev Cx.tin (X : Cx) (W : Value → Shared → Prop) (pn : List (Addr × Obj)) : Cx := { X with xe := W, pn := pn }
abbrev Cx.hin (X : Cx) (ea : Addr) (pn : List (Addr × Obj)) : Cx := { X with A := X.A.mark (some (.ref ea)), calm := false, pn := pn, xe := fun _ _ => False }
theorem Cx.Ok.tin {X : Cx} (ok : X.Ok) (W : Value → Shared → Prop) (pn : List (Addr × Obj)) : (X.tin W pn).Ok :=
  ⟨ok.mod, ok.kind, ok.glob, ok.blt, ok.above, ok.inj, ok.has, ok.cab, ok.hd, ok.frames, ok.stk, ok.exf, ok.bs, ok.bsz, ok.noex, ok.exfs, ok.funs, ok.frf⟩
theorem Cx.Ok.hin {X : Cx} (ok : X.Ok) (ea : Addr) (pn : List (Addr × Obj)) : (X.hin ea pn).Ok :=
  ⟨ok.mod, ok.kind, ok.glob, ok.blt, ok.above, ok.inj, ok.has, ok.cab, fun z => (by cases z), ok.frames, ok.stk, ok.exf, ok.bs, ok.bsz, ok.noex, ok.exfs, ok.funs, ok.frf⟩
section
variable {X : Cx} {pins pins1 pn : List (Addr × Obj)} {σ : St} {H : Hp} {s : Shared} {W : Value → Shared → Prop} {ea : Addr}
theorem Inv.tin (I : Inv X pins σ H s) (W : Value → Shared → Prop) : Inv (X.tin W (X.pn ++ pins)) [] σ H s :=
  ⟨I.ok.tin _ _, I.os, I.bare, I.base, I.loc, I.cell, I.free, I.freeC, fun p hp => I.pin p (by simpa using hp), I.hok, I.len⟩
theorem Inv.hin (I : Inv (X.tin W pn) pins σ H s) (ok : X.Ok) (ea : Addr) : Inv (X.hin ea pn) pins σ H s := ⟨ok.hin _ _, I.os, I.bare, I.base, I.loc, I.cell, I.free, I.freeC, I.pin, I.hok, I.len⟩
end
section
variable {X : Cx} {body suite : List Stmt} {b₀ : Stmt} {x nm : Str} {np hpos pos : Pos} {i : Nat} {C : Addr} {tb : XK → TS} {th : TS}
end
end L2
set_option Elab.async false
set_option linter.all false
set_option maxRecDepth 100000
set_option maxHeartbeats 4000000
namespace L2
open PySem PySem.Spec PyProof.Rows
theorem forIn_steps {α β : Type} (g : α → β → β) {f : α → β → Sem (ForInStep β)} : ∀ {l : List α} (c : β), (∀ x ∈ l, ∀ c, f x c = pure (.yield (g x c))) → forIn l c f = pure (l.foldl (fun c x => g x c) c)
  | [], c, _ => rfl
  | x :: l, c, h => by
    have hx := h x List.mem_cons_self c
    rw [List.forIn_cons, hx, pure_bind]
    exact forIn_steps g (g x c) fun y hy => h y (List.mem_cons_of_mem _ hy)
def addCell (env : Env) (x : Str × NameKind) (c : List (Str × Addr)) : List (Str × Addr) :=
  if x.2 == NameKind.free then (match env.cells.lookup x.1 with | some a => (x.1, a) :: c | none => c) else c
theorem addCells_sub {env : Env} : ∀ (l : List (Str × NameKind)) (acc : List (Str × Addr)), (∀ n c, acc.lookup n = some c → env.cells.lookup n = some c) →
    ∀ n c, (l.foldl (fun c x => addCell env x c) acc).lookup n = some c → env.cells.lookup n = some c
  | [], acc, h, n, c, e => h n c e
  | x :: l, acc, h, n, c, e => by
    refine addCells_sub l (addCell env x acc) (fun n c e => ?_) n c e
    unfold addCell at e
    split at e
    · split at e
      · rename_i a ha
        rw [List.lookup_cons] at e
        split at e
        · rename_i hb
          have hn : n = x.1 := by simpa using hb
          cases e
          rw [hn]; exact ha
        · exact h n c e
      · exact h n c e
    · exact h n c e
theorem addCells_has {env : Env} : ∀ (l : List (Str × NameKind)) (acc : List (Str × Addr)) (n : Str), ((∃ c, acc.lookup n = some c) ∨ ((n, NameKind.free) ∈ l ∧ ∃ c, env.cells.lookup n = some c)) →
    ∃ c, (l.foldl (fun c x => addCell env x c) acc).lookup n = some c
  | [], acc, n, h => by
    rcases h with h | ⟨h, _⟩
    · exact h
    · cases h
  | x :: l, acc, n, h => by
    refine addCells_has l (addCell env x acc) n ?_
    rcases h with ⟨c, h⟩ | ⟨h, c, hc⟩
    · left
      unfold addCell
      split
      · split
        · rw [List.lookup_cons]
          split
          · exact ⟨_, rfl⟩
          · exact ⟨c, h⟩
        · exact ⟨c, h⟩
      · exact ⟨c, h⟩
    · rcases List.mem_cons.mp h with e | h
      · left
        subst e
        unfold addCell
        have ef : (NameKind.free == NameKind.free) = true := rfl
        have en : (n == n) = true := by simp
        simp only [ef, if_true, hc, List.lookup_cons, en]
        exact ⟨c, rfl⟩
      · exact .inr ⟨h, c, hc⟩
theorem closure_of {scope : Scope} {env : Env} (hf : ∀ n, (n, NameKind.free) ∈ scope.names → ∃ c, env.cells.lookup n = some c) :
    ∃ cl, closureFor scope env = pure cl ∧ (∀ n c, cl.lookup n = some c → env.cells.lookup n = some c) ∧ ∀ n, (n, NameKind.free) ∈ scope.names → ∃ c, cl.lookup n = some c := by
  refine ⟨scope.names.foldl (fun c x => addCell env x c) [], ?_, addCells_sub _ _ (fun n c e => by simp at e), fun n h => addCells_has _ _ n (.inr ⟨h, hf n h⟩)⟩
  simp only [closureFor]
  rw [forIn_steps (addCell env) [] (fun x hx c => ?_)]
  · rfl
  · obtain ⟨n, kind⟩ := x
    by_cases hk : kind = .free
    · subst hk
      obtain ⟨a, ha⟩ := hf n hx
      have ef : (NameKind.free == NameKind.free) = true := rfl
      simp [cellOf, ha, addCell, ef]
    · have e : (kind == NameKind.free) = false := by simpa using hk
      simp [e, addCell]
theorem relabel_lookup (env : Env) (x : Str) : ∀ names : List (Str × NameKind),
    (names.map fun (n, k) => if (k == NameKind.free && env.scope.kind == .function && env.kindOf n == some .cell) then (n, NameKind.cell) else (n, k)).lookup x =
    (names.lookup x).map fun k => if (k == NameKind.free && env.scope.kind == .function && env.kindOf x == some .cell) then NameKind.cell else k
  | [] => rfl
  | (n, k) :: r => by
    have ih := relabel_lookup env x r
    rw [List.map_cons]
    by_cases e : x = n
    · subst e
      have ex : (x == x) = true := by simp
      by_cases c : (k == NameKind.free && env.scope.kind == .function && env.kindOf x == some .cell) = true
      · dsimp only
        rw [if_pos c, List.lookup_cons, ex, List.lookup_cons, ex]
        exact congrArg some (if_pos c).symm
      · dsimp only
        rw [if_neg c, List.lookup_cons, ex, List.lookup_cons, ex]
        exact congrArg some (if_neg c).symm
    · have e' : (x == n) = false := by simpa using e
      by_cases c : (k == NameKind.free && env.scope.kind == .function && env.kindOf n == some .cell) = true
      · dsimp only
        rw [if_pos c, List.lookup_cons, e', List.lookup_cons, e']
        exact ih
      · dsimp only
        rw [if_neg c, List.lookup_cons, e', List.lookup_cons, e']
        exact ih
structure CompScope (dsc : Scope) (N : List Str) (scope : Scope) (own : List Str) (ix : List Nat) : Prop where
  kind : scope.kind = .function
  nocell : ∀ y ∈ scope.names, y.2 ≠ NameKind.cell
  names : ∀ y ∈ scope.names, y.2 = NameKind.local → scope.names.lookup y.1 = some .local
  free : ∀ y ∈ scope.names, y.2 = NameKind.free → dsc.names.lookup y.1 = some .cell ∨ dsc.names.lookup y.1 = some .free
  ix : ∀ i ∈ ix, i < N.length ∧ scope.names.lookup (N.getD i "") = some .free
def Cx.comp (X : Cx) (scope : Scope) (own : List Str) (ix : List Nat) (cl : List (Str × Addr)) (C : Addr) (fp : List Addr) (s : Shared) (H : Hp) (xe : Value → Shared → Prop) : Cx :=
  { X with N := own ++ ix.map (fun i => X.N.getD i ""), s₀ := s, H₀ := H, env := compEnvC scope cl C X.env, outer := X.stack, ex := fp, fn := fun _ => false, pn := [], xe := xe }
theorem comp_K {X : Cx} {scope : Scope} {own : List Str} {ix : List Nat} {cl : List (Str × Addr)} {C : Addr} {fp : List Addr} {s : Shared} {H : Hp} {xe : Value → Shared → Prop} : (X.comp scope own ix cl C fp s H xe).K = X.K := rfl
def selC (k : Nat) (ix : List Nat) (σ : St) : St := List.replicate k none ++ ix.map (fun i => (σ[i]?).join)
section
variable {X : Cx} {pins : List (Addr × Obj)} {σ : St} {H H4 : Hp} {s s4 : Shared} {dsc scope : Scope} {own : List Str} {ix : List Nat} {cl : List (Str × Addr)} {C : Addr} {fp : List Addr} {xe : Value → Shared → Prop}
theorem comp_fp (I : Inv X pins σ H s) (hf : ∀ b ∈ fp, FpOk X pins H b) {b : Addr} (hb : b ∈ fp) : b ∉ frs X.stack := fun hs => by
  obtain ⟨_, f1, f2, _⟩ := hf b hb
  rcases List.mem_cons.mp (I.stkSub b hs) with e | e
  · exact f1 e
  · exact f2 e
theorem Inv.comp (I : Inv X pins σ H s) (hd : X.env.scope = dsc) (S : CompScope dsc X.N scope own ix) (cs : ∀ n c, cl.lookup n = some c → X.env.cells.lookup n = some c) (ch : ∀ n, (n, NameKind.free) ∈ scope.names → ∃ c, cl.lookup n = some c)
    (hf : ∀ b ∈ fp, FpOk X pins H b) (ho : ∀ b ∈ fp, ∃ o, s.heap.get? b = some o) (I4 : Inv X pins σ H4 s4) (un : Un (frs X.stack) fp H H4 s.heap s4.heap) (hC : s.heap.objs.size ≤ C) (hn : ∃ m, s4.heap.Ns C m) (hC0 : H4 C = none) :
    Inv (X.comp scope own ix cl C fp s H xe) [] (selC own.length ix σ) H4 s4 := by
  have kfree : ∀ x, scope.names.lookup x = some .free → (compEnvC scope cl C X.env).kindOf x = some .cell ∨ (compEnvC scope cl C X.env).kindOf x = some .free := fun x h => by
    have e : (compEnvC scope cl C X.env).kindOf x = _ := relabel_lookup X.env x scope.names
    rw [e, h, Option.map_some]
    split
    · exact .inl rfl
    · exact .inr rfl
  have kback : ∀ x, ((compEnvC scope cl C X.env).kindOf x = some .cell ∨ (compEnvC scope cl C X.env).kindOf x = some .free) → scope.names.lookup x = some .free := fun x h => by
    have e : (compEnvC scope cl C X.env).kindOf x = _ := relabel_lookup X.env x scope.names
    rw [e] at h
    cases q : scope.names.lookup x with
    | none => rw [q] at h; rcases h with h | h <;> cases h
    | some k =>
      have nc := S.nocell _ (PySem.mem_of_lookup q)
      rw [q, Option.map_some] at h
      cases k <;> first | rfl | exact absurd rfl nc | (rcases h with h | h <;> cases h)
  refine ⟨⟨I.ok.mod, S.kind, I.ok.glob, I.ok.blt, hC, fun x y c h1 h2 => I.ok.inj x y c (cs x c h1) (cs y c h2), fun x hx => ch x (PySem.mem_of_lookup (kback x hx)), fun x c h => (nomatch h), I.ok.hd, I.ok.frames, .inl rfl, fun b hb => ⟨fun z => ?_, fun x c e => (hf b hb).2.2.2.2.1 x c (cs x c e)⟩,
    I.bs, Nat.le_trans I.ok.bsz I.sz, fun b o e hb => ?_, fun b hb => comp_fp I hf hb, I.stack, I.stkFree⟩, I4.os.trans I.os.symm, I4.bare, un, ?_, fun x c e => I4.cell x c (cs x c e), hC0, fun x c e => I4.freeC x c (cs x c e), fun p hp => (nomatch hp), I4.hok, ?_⟩
  · obtain ⟨o, e⟩ := ho b hb
    have z' : b = C := z
    exact absurd (Nat.lt_of_lt_of_le (Heap.lt_size e) (by rw [z']; exact hC)) (Nat.lt_irrefl _)
  · rcases (hf b hb).2.2.2.1 with z | z
    · exact I.ok.noex b o e z
    · exact absurd (Nat.lt_of_lt_of_le (Heap.lt_size e) (Nat.le_trans I.ok.bsz z)) (Nat.lt_irrefl _)
  · obtain ⟨m, hm⟩ := hn
    refine ⟨m, hm, fun i x v e1 e2 _ => ?_⟩
    have e1' : (own ++ ix.map (fun i => X.N.getD i ""))[i]? = some x := e1
    unfold selC at e2
    by_cases hi : i < own.length
    · rw [List.getElem?_append_left (by rw [List.length_replicate]; exact hi), List.getElem?_replicate, if_pos hi] at e2
      cases e2
    · rw [List.getElem?_append_right (by rw [List.length_replicate]; omega), List.length_replicate, List.getElem?_map] at e2
      rw [List.getElem?_append_right (by omega), List.getElem?_map] at e1'
      cases q : ix[i - own.length]? with
      | none => rw [q] at e2; cases e2
      | some j =>
        rw [q] at e1' e2
        rw [Option.map_some, Option.some.injEq] at e1' e2
        obtain ⟨hj, hfr⟩ := S.ix j (List.mem_of_getElem? q)
        rw [e1'] at hfr
        have eN : X.N[j]? = some x := by
          rw [List.getElem?_eq_getElem hj, ← e1', List.getD_eq_getElem?_getD, List.getElem?_eq_getElem hj]; rfl
        have es : σ[j]? = some (some v) := by
          cases w : σ[j]? with
          | none => rw [w] at e2; cases e2
          | some o => rw [w] at e2; exact congrArg some e2
        have kd := S.free _ (PySem.mem_of_lookup hfr) rfl
        rw [← hd] at kd
        obtain ⟨m4, hm4, hl⟩ := I4.loc
        obtain ⟨u, r, l⟩ := hl j x v eN es (.inr kd)
        refine ⟨u, r, .inr ⟨kfree x hfr, ?_⟩⟩
        rcases l with ⟨k, _⟩ | ⟨_, c, ec, cell⟩
        · have k' : X.env.scope.names.lookup x = some .local := k
          rcases kd with z | z <;> (rw [k'] at z; cases z)
        · obtain ⟨c', ec'⟩ := ch x (PySem.mem_of_lookup hfr)
          have z := cs x c' ec'
          rw [ec] at z
          cases z
          exact ⟨c, ec', cell⟩
  · show (selC own.length ix σ).length = (own ++ ix.map (fun i => X.N.getD i "")).length
    unfold selC
    rw [List.length_append, List.length_append, List.length_replicate, List.length_map, List.length_map]
theorem Inv.outOf {pins' : List (Addr × Obj)} {σ' : St} {H' : Hp} {s' : Shared} (I : Inv X pins σ H s) (hf : ∀ b ∈ fp, FpOk X pins H b) (J : Inv (X.comp scope own ix cl C fp s H xe) pins' σ' H' s') : Inv X pins σ H' s' :=
  I.call' J.os J.base J.hok J.bare fun b hb => by
    obtain ⟨_, f1, _, f3, f4, f5⟩ := hf b hb
    exact ⟨f3, f1, f4, f5⟩
end
abbrev testsOf (ifs : List Expr) (env : Env) : Sem Bool := forIn ifs true fun c r => if r = true then do let ok ← isTrue c env (eval c env); pure (ForInStep.yield ok) else pure (ForInStep.yield r)
def PIf (X : Cx) (ifs : List Expr) (t : TT) : Prop :=
  ∀ (pins : List (Addr × Obj)) (s : Shared) (σ : St) (H : Hp) (Q : Bool → Hp → Prop), Inv X pins σ H s → t σ H Q → wpAny (model X.prog X.w) X.A (testsOf ifs X.env) (TP X pins σ Q) X.xe s
def tYes : TT := fun _ H Q => Q true H
theorem pif_nil {X : Cx} : PIf X [] tYes := fun _ _ _ H _ I h => wpAny_tests_nil ⟨H, I, h⟩
theorem pif_one {X : Cx} {c : Expr} {t : TT} (h : PT X c t) : PIf X [c] t := fun pins s σ H Q I q => wpAny_tests_one (h pins s σ H Q I q)
section
variable {prog : Program} {w : World} {A : Around} {R : Result → Shared → Prop} {s : Shared}
abbrev nb (prog : Program) (w : World) (A : Around) (env : Env) (R : Result → Shared → Prop) : Value → Shared → Prop := notedBy (model prog w) A env fun e s' => R (.error e) s'
theorem comp_loop {elt target iter : Expr} {ifs : List Expr} {scope : Scope} {pos : Pos} {it acc : Value} {env : Env} (I : Nat → Shared → Prop)
    (turn : ∀ n s, I n s → wpAny (model prog w) A (pyNext it) (fun r s₁ => (r = none ∧ R (.ok .next) s₁) ∨ ∃ v, r = some v ∧
      wpAny (model prog w) A (letOwnedTupleGo target it v) (fun _ s₂ => wpAny (model prog w) A (assign target env v) (fun _ s₃ => wpAny (model prog w) A (testsOf ifs env) (fun ok s₄ =>
        if ok = true then wpAny (model prog w) A (eval elt env) (fun x s₅ => wpAny (model prog w) A (call (.builtin "list.append") [acc, x]) (fun _ s₆ => ∃ m, m < n ∧ I m s₆) (nb prog w A env R) s₅) (nb prog w A env R) s₄
        else ∃ m, m < n ∧ I m s₄) (nb prog w A env R) s₃) (nb prog w A env R) s₂) (nb prog w A env R) s₁) (nb prog w A env R) s)
    (n : Nat) (h : I n s) : codeAny (model prog w) A (.compLoop (.ListComp elt [⟨target, iter, ifs, 0⟩] scope pos) 0 it acc env) R s := by
  refine codeAny_loop rfl I (fun n s hI => ?_) n h
  refine wpAny_noted ?_
  have e := compTurn_list elt target iter ifs scope pos it acc env
  show wpAny (model prog w) A (compTurn (.ListComp elt [⟨target, iter, ifs, 0⟩] scope pos) 0 it acc env) _ _ s
  rw [e]
  refine wpAny_bind (wpAny_standAt (wpAny_bind (thn (turn n s hI) fun r s₁ h₁ => ?_)))
  rcases h₁ with ⟨rfl, h₁⟩ | ⟨v, rfl, h₁⟩
  · exact wpAny_pure h₁
  · refine wpAny_bind (thn h₁ fun _ s₂ h₂ => wpAny_bind (thn h₂ fun _ s₃ h₃ => wpAny_bind (thn h₃ fun ok s₄ h₄ => ?_)))
    cases ok with
    | false => exact wpAny_pure ⟨rfl, h₄⟩
    | true =>
      refine wpAny_bind (wpAny_bind (thn h₄ fun x s₅ h₅ => wpAny_bind (thn h₅ fun _ s₆ h₆ => ?_)))
      exact wpAny_pure (wpAny_pure ⟨rfl, h₆⟩)
end
def tComp (k : Nat) (ix : List Nat) (wi : TI) (g : TG) (ti : TT) (te : TE) : TE := fun σ H Q => wi σ H fun J H1 => ∀ D, H1 D = none → ∃ W : Nat → Nat → Hp → Prop, (∃ m, W 0 m (upd H1 D (.lst []))) ∧ ∀ i m H2, W i m H2 →
  (J.stop i H2 ∧ Q (.ref D) H2) ∨ (J.go i H2 ∧ ∀ x H3, J.yld i H2 x H3 → g x (selC k ix σ) H3 fun σ4 H4 => ti σ4 H4 fun b H5 => if b = true then te σ4 H5 fun y H6 => ∃ ys, H6 D = some (.lst ys) ∧ ys.length < sizeLine ∧ ∃ m', m' < m ∧ W (i + 1) m' (upd H6 D (.lst (ys ++ [y])))
    else ∃ m', m' < m ∧ W (i + 1) m' H5)
section
variable {X : Cx} {pins : List (Addr × Obj)} {σ : St} {H : Hp} {s : Shared} {dsc scope : Scope} {own : List Str} {ix : List Nat} {elt tg iter : Expr} {ifs : List Expr} {pos : Pos} {wi : TI} {g : TG} {ti : TT} {te : TE}
def CompBody (X : Cx) (scope : Scope) (own : List Str) (ix : List Nat) (tg : Expr) (ifs : List Expr) (elt : Expr) (g : TG) (ti : TT) (te : TE) : Prop :=
  ∀ cl C fp s H xe, PG (X.comp scope own ix cl C fp s H xe) tg g ∧ PIf (X.comp scope own ix cl C fp s H xe) ifs ti ∧ PE (X.comp scope own ix cl C fp s H xe) elt te
theorem comp_run {use : Option (Value → Sem Unit)} {RQ : Value → Shared → Prop} {Q : VK} {p0 : Pos} (hc : X.calm = true) (hd : X.env.scope = dsc) (S : CompScope dsc X.N scope own ix) (hi : PI X tg iter wi) (hb : CompBody X scope own ix tg ifs elt g ti te)
    (hs : ∀ x, foldedSetIterable iter X.env x = pure x) (I : Inv X pins σ H s) (h : tComp own.length ix wi g ti te σ H Q)
    (fin : ∀ D C H' s', Inv X pins σ H' s' → FpOk X pins H' C → (∃ m, s'.heap.Ns C m) → Q (.ref D) H' → compPost (model X.prog X.w) X.A X.xe use RQ (.ref D) C (.ok .next) s') :
    wpAny (model X.prog X.w) X.A (comprehension (.ListComp elt [⟨tg, iter, ifs, 0⟩] scope pos) scope X.env p0 (newList []) false (eval iter X.env) use) RQ X.xe s := by
  obtain ⟨cl, hcl, cs, ch⟩ := closure_of (scope := scope) (env := X.env) fun n hn => I.ok.has n (by
    have z := S.free _ hn rfl
    rw [← hd] at z
    exact z)
  refine wpAny_comprehension_free rfl hs hcl S.kind S.names (thn (hi pins s σ H _ I h) fun v s1 h1 => thn h1 fun itv s2 h2 => ?_)
  obtain ⟨it, fp, tn, J, H2, e, I2, T, st2, f2, W⟩ := h2
  subst e
  have hD0 : H2 s2.heap.objs.size = none := I2.fresh
  obtain ⟨W, ⟨m0, w0⟩, turn⟩ := W _ hD0
  have I3 := I2.lnew (ys := []) (its := []) (t' := s2.toks) .nil (Nat.zero_le _)
  refine wpAny_newObj_type (wpAny_newFunctionEnv S.nocell (by intro y hy; cases hy) (fun h₁ hns₁ hsb₁ => ?_) S.kind)
  dsimp only at hns₁ hsb₁ ⊢
  generalize hH3 : s2.heap.push { cls := .type "list", dict := none, data := .seq ([] : List Value).toArray } = g3 at hns₁ hsb₁ ⊢
  have hC : g3.objs.size = s2.heap.objs.size + 1 := by rw [← hH3, Heap.size_push]
  have old3 : ∀ b o, g3.get? b = some o → h₁.get? b = some o := fun b o e => hsb₁.extBut b o (Nat.ne_of_lt (Heap.lt_size e)) (Heap.get?_push_of_some _ e)
  have old : ∀ b o, s2.heap.get? b = some o → h₁.get? b = some o := fun b o e => old3 b o (by rw [← hH3]; exact Heap.get?_push_of_some _ e)
  have I4 : Inv X pins σ (upd H2 s2.heap.objs.size (.lst [])) { s2 with heap := h₁, toks := s2.toks + 0 } := I3.kept (t' := s2.toks + 0) fun b o e => old3 b o (by rw [← hH3]; exact e)
  have fpo : ∀ b ∈ fp, ∃ o, s2.heap.get? b = some o := fun b hb => let ⟨o, e, _⟩ := T.obj _ _ st2 b hb; ⟨o, e⟩
  have hC0 : upd H2 s2.heap.objs.size (.lst []) g3.objs.size = none := by
    rw [upd_ne (by rw [hC]; exact Nat.succ_ne_self _)]
    exact I2.hok.fresh (by rw [hC]; exact Nat.le_succ _)
  have hCs : s2.heap.objs.size ≤ g3.objs.size := by rw [hC]; exact Nat.le_succ _
  -- the block's context, and how one comes into it again
  have into : ∀ {H' : Hp} {s' : Shared} {xe : Value → Shared → Prop}, Inv X pins σ H' s' → Un (frs X.stack) fp H2 H' s2.heap s'.heap → (∃ m, s'.heap.Ns g3.objs.size m) → H' g3.objs.size = none → Inv (X.comp scope own ix cl g3.objs.size fp s2 H2 xe) [] (selC own.length ix σ) H' s' :=
    fun I' un hn h0 => I2.comp hd S cs ch f2 fpo I' un hCs hn h0
  have stat : ∀ {H' : Hp} {xe : Value → Shared → Prop} {σ' : St} {s' : Shared}, Inv (X.comp scope own ix cl g3.objs.size fp s2 H2 xe) [] σ' H' s' → (∀ b ∈ fp, H' b = none) → ∀ b ∈ fp, FpOk (X.comp scope own ix cl g3.objs.size fp s2 H2 xe) [] H' b := fun {H' xe σ' s'} K hn b hb =>
    ⟨hn b hb, (K.ok.exf b hb).1, K.ok.exfs b hb, .inl hb, (K.ok.exf b hb).2, fun p hp => nomatch hp⟩
  have loop : ∀ s₃ : Shared, s₃ = { s2 with heap := h₁, toks := s2.toks + 0 } →
      codeAny (model X.prog X.w) X.A (.compLoop (.ListComp elt [⟨tg, iter, ifs, 0⟩] scope pos) 0 (.ref it) (.ref s2.heap.objs.size) (compEnvC scope cl g3.objs.size X.env)) (compPost (model X.prog X.w) X.A X.xe use RQ (.ref s2.heap.objs.size) g3.objs.size) s₃ := by
    rintro s₃ rfl
    generalize hxe : nb X.prog X.w X.A (compEnvC scope cl g3.objs.size X.env) (compPost (model X.prog X.w) X.A X.xe use RQ (.ref s2.heap.objs.size) g3.objs.size) = xe
    obtain ⟨hg, hif, hel⟩ := hb cl g3.objs.size fp s2 H2 xe
    refine comp_loop (fun n s' => ∃ i H', Inv (X.comp scope own ix cl g3.objs.size fp s2 H2 xe) [] (selC own.length ix σ) H' s' ∧ tn i s'.heap ∧ (∀ b ∈ fp, H' b = none) ∧ W i n H') ?_ m0
      ⟨0, _, into I4 (Un.laid old (Nat.le_refl _) hD0) ⟨_, hns₁⟩ hC0, T.keep _ _ _ st2 fun b hb o e => old b o e, fun b hb => ?_, w0⟩
    · rintro n s3 ⟨i, H3, K3, st3, fr3, w3⟩
      rw [hxe]
      rcases turn i n H3 w3 with ⟨stop, qn⟩ | ⟨go, step⟩
      · refine thn (T.done (X.comp scope own ix cl g3.objs.size fp s2 H2 xe) rfl rfl rfl hc i [] s3 _ H3 xe K3 (stat K3 fr3) st3 stop) fun r s4 ⟨hr, K4⟩ => .inl ⟨hr, ?_⟩
        obtain ⟨m, hm, _⟩ := K4.loc
        exact fin _ _ H3 s4 (I2.outOf f2 K4) (I2.fpOk hCs K4.free) ⟨m, hm⟩ qn
      · refine thn (T.item (X.comp scope own ix cl g3.objs.size fp s2 H2 xe) rfl rfl rfl hc i [] s3 _ H3 xe K3 (stat K3 fr3) st3 go) fun r s4 ⟨u, hr, h4⟩ => .inr ⟨u, hr, ?_⟩
        refine thn h4 fun _ s5 ⟨x, H5, K5, r5, y5, st5, fr5⟩ => ?_
        have K5' := K5.pinned (stat K5 fr5) (T.obj _ _ st5)
        refine thn (hg _ s5 _ H5 x u _ K5' r5 (step x H5 y5)) fun _ s6 ⟨σ6, H6, K6, q6⟩ => ?_
        refine thn (hif _ s6 σ6 H6 _ K6 q6) fun b s7 ⟨H7, K7, q7⟩ => ?_
        have again : ∀ {σ8 : St} {H8 : Hp} {s8 : Shared}, Inv (X.comp scope own ix cl g3.objs.size fp s2 H2 xe) ([] ++ pinsAt fp s5.heap) σ8 H8 s8 → (∃ m', m' < n ∧ W (i + 1) m' H8) → ∃ m, m < n ∧ ∃ i H', Inv (X.comp scope own ix cl g3.objs.size fp s2 H2 xe) [] (selC own.length ix σ) H' s8 ∧ tn i s8.heap ∧ (∀ b ∈ fp, H' b = none) ∧ W i m H' := fun {σ8 H8 s8} K8 ⟨m', hm, w8⟩ => by
          obtain ⟨m, hm8, _⟩ := K8.loc
          refine ⟨m', hm, i + 1, H8, into (I2.outOf f2 K8) K8.base ⟨m, hm8⟩ K8.free, T.keep _ _ _ st5 fun b hb o e => (K8.pin (b, o) (List.mem_append_right _ (List.mem_append_right _ (mem_pinsAt hb e)))).1, fun b hb => ?_, w8⟩
          obtain ⟨o, e, d⟩ := T.obj _ _ st5 b hb
          exact (K8.pin (b, o) (List.mem_append_right _ (List.mem_append_right _ (mem_pinsAt hb e)))).2.1
        cases b with
        | false => exact again K7 q7
        | true =>
          refine thn (hel _ s7 σ6 H7 _ K7 q7) fun v s8 ⟨y, H8, K8, r8, ys, e8, z8, q8⟩ => ?_
          refine thn (mt_append (X := X.comp scope own ix cl g3.objs.size fp s2 H2 xe) _ s8 σ6 H8 (.ref s2.heap.objs.size) [y] (.ref s2.heap.objs.size) [v] (fun _ H' => ∃ m', m' < n ∧ W (i + 1) m' H') K8 rfl (.cons r8 .nil) ⟨_, ys, y, rfl, rfl, e8, z8, q8⟩) ?_
          rintro u9 s9 ⟨v9, H9, K9, r9, q9⟩
          exact again K9 q9
    · have z := (f2 b hb).1
      obtain ⟨o, e⟩ := fpo b hb
      rw [upd_ne (Nat.ne_of_lt (Heap.lt_size e))]
      exact z
  exact codeAny_compStart_list (loop _ rfl) (T.self _ 0 _ _ _ (T.keep _ _ _ st2 fun b hb o e => old b o e) (loop _ rfl))
theorem pe_comp {N : List Str} (hc : X.calm = true) (hd : X.env.scope = dsc) (hN : X.N = N) (S' : CompScope dsc N scope own ix) (hi : PI X tg iter wi) (hb : CompBody X scope own ix tg ifs elt g ti te)
    (hs : ∀ x, foldedSetIterable iter X.env x = pure x := by intro _; rfl) : PE X (.ListComp elt [⟨tg, iter, ifs, 0⟩] scope pos) (tComp own.length ix wi g ti te) := by
  have S : CompScope dsc X.N scope own ix := by rw [hN]; exact S'
  intro pins s σ H Q I h
  rw [eval_ListComp]
  refine comp_run (use := none) hc hd S hi hb hs I h fun D C H' s' I' f' hn q => ?_
  obtain ⟨m, hm⟩ := hn
  obtain ⟨f0, f1, f2, f3, f4, f5⟩ := f'
  exact ⟨m, hm, fun h' sb => ⟨.ref D, H', I'.turned (t' := s'.toks) (fun b o hb e => (sb.2 b hb).trans e) f0 f1 f3 f4 f5, rfl, q⟩⟩
theorem ps_setC {i : Nat} {x : Str} {N : List Str} {pos' pos1 : Pos} (hN : X.N.Nodup) (hx0 : X.N[i]? = some x) (hx : Loc X.env.scope x) (hc : X.calm = true) (hd : X.env.scope = dsc) (hN' : X.N = N) (S' : CompScope dsc N scope own ix) (hi : PI X tg iter wi) (hb : CompBody X scope own ix tg ifs elt g ti te)
    (hsw : swapsWith (.ListComp elt [⟨tg, iter, ifs, 0⟩] scope pos) (some (.Name x pos')) pos1.line X.env = pure true := by rfl) (hf : X.fn x = true ∨ X.env.scope.names.lookup x = some .local := by first | exact .inl rfl | exact .inr rfl | assumption)
    (hs : ∀ x, foldedSetIterable iter X.env x = pure x := by intro _; rfl) : PS X (.Assign [.Name x pos'] (.ListComp elt [⟨tg, iter, ifs, 0⟩] scope pos) pos1) (tAsg (tComp own.length ix wi g ti te) (gName i)) := by
  have S : CompScope dsc X.N scope own ix := by rw [hN']; exact S'
  intro pins s σ H D I h
  rw [exec_Assign_Name_used _ _ _ _ hsw]
  have main := comp_run (p0 := iter.pos) (pos := pos) (use := some (assign (.Name x pos') X.env)) (RQ := fun _ s' => SP X pins D .next s') hc hd S hi hb hs I h fun l C H' s' I' f' hn q => by
    obtain ⟨m, o, es, ep, ho, hdt, hr⟩ := hn
    obtain ⟨f0, f1, f2, f3, f4, f5⟩ := f'
    have Ip : Inv X (pins ++ [(C, o)]) σ H' s' := I'.pins_of fun p hp => (List.mem_append.mp hp).elim (fun z => I'.pin p (List.mem_append_right _ z)) fun z => by
      have e : p = (C, o) := by simpa using z
      subst e
      exact ⟨ho, f0, f1, f2, fun v z => by rw [hdt] at z; cases z⟩
    refine wpAny_assign_Name (store_ok (v := .ref l) Ip hN hx0 hx rfl (fun s2 I2 => ?_) hf)
    have pc := I2.pin (C, o) (List.mem_append_right _ (List.mem_append_right _ (by simp)))
    refine ⟨m, ⟨o, es, ep, pc.1, hdt, hr⟩, fun h' sb => ⟨_, H', I2.unpinned.turned (t' := s2.toks) (fun b o hb e => (sb.2 b hb).trans e) pc.2.1 f1 f3 f4 f5, q⟩⟩
  refine wpAny_bind (wpAny_standAt (wpAny_bind ?_))
  exact wpAny_bind (thn main fun _ s' hq => wpAny_pure (wpAny_pure hq))
end
def CW (n : Nat) (Pv : Nat → List V → Hp → Prop) : Nat → Nat → Hp → Prop := fun i m H => m = n - i ∧ i ≤ n ∧ ∃ ys, Pv i ys H
abbrev CPut (n : Nat) (Pv : Nat → List V → Hp → Prop) (D : Addr) (i : Nat) (y : V) (H : Hp) : Prop := ∃ ys, H D = some (.lst ys) ∧ ys.length < sizeLine ∧ ∃ m', m' < n - i ∧ CW n Pv (i + 1) m' (upd H D (.lst (ys ++ [y])))
abbrev CSkip (n : Nat) (Pv : Nat → List V → Hp → Prop) (i : Nat) (H : Hp) : Prop := ∃ m', m' < n - i ∧ CW n Pv (i + 1) m' H
theorem cw_put {n i : Nat} {Pv : Nat → List V → Hp → Prop} {D : Addr} {y : V} {ys : List V} {H : Hp} (hi : i < n) (hD : H D = some (.lst ys)) (hz : ys.length < sizeLine) (p : Pv (i + 1) (ys ++ [y]) (upd H D (.lst (ys ++ [y])))) : CPut n Pv D i y H :=
  ⟨ys, hD, hz, n - (i + 1), by omega, rfl, hi, _, p⟩
theorem cw_skip {n i : Nat} {Pv : Nat → List V → Hp → Prop} {ys : List V} {H : Hp} (hi : i < n) (p : Pv (i + 1) ys H) : CSkip n Pv i H := ⟨n - (i + 1), by omega, rfl, hi, _, p⟩
def CompW (J : It) (D : Addr) (g : TG) (ti : TT) (te : TE) (σ' : St) (H : Hp) (Q : VK) : Prop :=
  ∃ W : Nat → Nat → Hp → Prop, (∃ m, W 0 m (upd H D (.lst []))) ∧ ∀ i m H2, W i m H2 →
    (J.stop i H2 ∧ Q (.ref D) H2) ∨ (J.go i H2 ∧ ∀ x H3, J.yld i H2 x H3 → g x σ' H3 fun σ4 H4 => ti σ4 H4 fun b H5 => if b = true then te σ4 H5 fun y H6 => ∃ ys, H6 D = some (.lst ys) ∧ ys.length < sizeLine ∧ ∃ m', m' < m ∧ W (i + 1) m' (upd H6 D (.lst (ys ++ [y])))
      else ∃ m', m' < m ∧ W (i + 1) m' H5)
theorem tComp_mk {k : Nat} {ix : List Nat} {wi : TI} {g : TG} {ti : TT} {te : TE} {σ : St} {H : Hp} {Q : VK} (h : wi σ H fun J H1 => ∀ D, H1 D = none → CompW J D g ti te (selC k ix σ) H1 Q) : tComp k ix wi g ti te σ H Q := h
theorem comp_by {J : It} {D : Addr} {g : TG} {ti : TT} {te : TE} {σ' : St} {H : Hp} {Q : VK} (n : Nat) (Pv : Nat → List V → Hp → Prop) (h0 : Pv 0 [] (upd H D (.lst []))) (hgo : ∀ i ys H, i < n → Pv i ys H → J.go i H) (hst : ∀ ys H, Pv n ys H → J.stop n H)
    (hs : ∀ i ys H x H3, i < n → Pv i ys H → J.yld i H x H3 → g x σ' H3 fun σ4 H4 => ti σ4 H4 fun b H5 => if b = true then te σ4 H5 fun y H6 => CPut n Pv D i y H6 else CSkip n Pv i H5)
    (hd : ∀ ys H, Pv n ys H → Q (.ref D) H) : CompW J D g ti te σ' H Q := by
  refine ⟨CW n Pv, ⟨n, rfl, Nat.zero_le _, [], h0⟩, ?_⟩
  rintro i m H2 ⟨rfl, hi, ys, p⟩
  by_cases hlt : i < n
  · exact .inr ⟨hgo i ys H2 hlt p, fun x H3 y => hs i ys H2 x H3 hlt p y⟩
  · have e : i = n := by omega
    subst e
    exact .inl ⟨hst ys H2 p, hd ys H2 p⟩
theorem comp_list {K : PySem.W.Frag} {a D : Addr} {xs : List V} {g : TG} {ti : TT} {te : TE} {σ' : St} {H : Hp} {Q : VK} (Pv : Nat → List V → Hp → Prop) (h0 : Pv 0 [] (upd H D (.lst []))) (hl : ∀ i ys H, Pv i ys H → SqL K H a xs)
    (hs : ∀ i ys H x, i < xs.length → xs[i]? = some x → Pv i ys H → g x σ' H fun σ4 H4 => ti σ4 H4 fun b H5 => if b = true then te σ4 H5 fun y H6 => CPut xs.length Pv D i y H6 else CSkip xs.length Pv i H5)
    (hd : ∀ ys H, Pv xs.length ys H → Q (.ref D) H) : CompW (Itl K a) D g ti te σ' H Q := by
  refine comp_by xs.length Pv h0 (fun i ys H hi p => ⟨xs, xs[i], hl i ys H p, by simp [hi]⟩) (fun ys H p => ⟨xs, hl _ ys H p, Nat.le_refl _⟩) (fun i ys H x H3 hi p y => ?_) hd
  obtain ⟨e, y⟩ := y
  subst e
  exact hs i ys _ x hi (y xs (hl i ys _ p)) p
end L2
set_option Elab.async false
set_option linter.all false
set_option maxRecDepth 100000
set_option maxHeartbeats 4000000
namespace L2
open PySem PySem.Spec PyProof.Rows
mutual
def RdD (K : PySem.W.Frag) (H : Hp) : PyData → V → Prop
  | .none, v => v = .non
  | .bool b, v => v = .bl b
  | .int i, v => v = .int i
  | .str x, v => v = .str x
  | .list ds, v => ∃ p xs, v = .ref p ∧ SqL K H p xs ∧ RdDs K H ds xs
  | .tuple ds, v => ∃ p xs, v = .ref p ∧ SqT K H p xs ∧ RdDs K H ds xs
  | .dict _, _ => False
def RdDs (K : PySem.W.Frag) (H : Hp) : List PyData → List V → Prop
  | [], xs => xs = []
  | d :: ds, xs => ∃ x r, xs = x :: r ∧ RdD K H d x ∧ RdDs K H ds r
end
section
variable {X : Cx} {pins : List (Addr × Obj)} {σ : St} {H : Hp} {s : Shared}
mutual
theorem reads_of (I : Inv X pins σ H s) : ∀ (d : PyData) (v : V) (u : Value), RdD X.K H d v → RelV v u → ∃ as, Reads s.heap u d as
  | .none, v, u, h, r => by
    rw [RdD] at h; subst h; cases r; exact ⟨_, .none⟩
  | .bool b, v, u, h, r => by
    rw [RdD] at h; subst h; cases r; exact ⟨_, .bool b⟩
  | .int i, v, u, h, r => by
    rw [RdD] at h; subst h; obtain ⟨t, rfl⟩ := r; exact ⟨_, .int i t⟩
  | .str x, v, u, h, r => by
    rw [RdD] at h; subst h; obtain ⟨t, rfl⟩ := r; exact ⟨_, .str x t⟩
  | .list ds, v, u, h, r => by
    rw [RdD] at h
    obtain ⟨p, xs, rfl, hq, hs⟩ := h
    cases r
    obtain ⟨its, rv, pl, hz⟩ := I.list hq
    obtain ⟨o, ho, hc, n, hd⟩ := pl.isList
    obtain ⟨as, ra⟩ := reads_ofs I ds xs its hs rv
    exact ⟨_, reads_list_at ho hc hd (by simpa using ra)⟩
  | .tuple ds, v, u, h, r => by
    rw [RdD] at h
    obtain ⟨p, xs, rfl, hq, hs⟩ := h
    cases r
    obtain ⟨its, rv, pl, hz⟩ := I.tuple hq
    obtain ⟨o, ho, hc, n, hd⟩ := pl
    obtain ⟨as, ra⟩ := reads_ofs I ds xs its hs rv
    exact ⟨_, reads_tuple_at ho hc hd (by simpa using ra)⟩
  | .dict kvs, v, u, h, r => by
    rw [RdD] at h; exact h.elim
theorem reads_ofs (I : Inv X pins σ H s) : ∀ (ds : List PyData) (xs : List V) (us : List Value), RdDs X.K H ds xs → Vals xs us → ∃ as, ReadsAll s.heap us ds as
  | [], xs, us, h, r => by
    rw [RdDs] at h; subst h; cases r; exact ⟨_, .nil⟩
  | d :: ds, xs, us, h, r => by
    rw [RdDs] at h
    obtain ⟨x, xr, rfl, hx, hr⟩ := h
    cases r with
    | cons r1 r2 =>
      obtain ⟨as, ra⟩ := reads_of I d _ _ hx r1
      obtain ⟨bs, rb⟩ := reads_ofs I ds _ _ hr r2
      exact ⟨_, .cons ra rb⟩
end
end
def rEqD (K : PySem.W.Frag) : R2 := fun x y H Q => ∃ d e, RdD K H d x ∧ RdD K H e y ∧ SeqAt.shaped d = true ∧ SeqAt.shaped e = true ∧ Q (.bl (PyData.eqv d e)) H
def rNeD (K : PySem.W.Frag) : R2 := fun x y H Q => ∃ d e, RdD K H d x ∧ RdD K H e y ∧ SeqAt.shaped d = true ∧ SeqAt.shaped e = true ∧ Q (.bl (!PyData.eqv d e)) H
theorem hu64 {A : Around} {k : Nat} (hr : Room k A) : A.units + 64 < cLine := by have := hr.un; omega
section
variable {X : Cx}
theorem op_eqD (hu : X.A.units + 64 < cLine) : OpR X (compareOp .Eq) (rEqD X.K) := by
  intro pins s σ H x y v u Q I rx ry h
  obtain ⟨d, e, hd, he, sd, se, q⟩ := h
  obtain ⟨as, ra⟩ := reads_of I d x v hd rx
  obtain ⟨bs, rb⟩ := reads_of I e y u he ry
  exact eq_dataH ra rb sd se hu ⟨.bl (PyData.eqv d e), H, I, rfl, q⟩
theorem op_neD (hu : X.A.units + 64 < cLine) : OpR X (compareOp .NotEq) (rNeD X.K) := by
  intro pins s σ H x y v u Q I rx ry h
  obtain ⟨d, e, hd, he, sd, se, q⟩ := h
  obtain ⟨as, ra⟩ := reads_of I d x v hd rx
  obtain ⟨bs, rb⟩ := reads_of I e y u he ry
  exact ne_dataH ra rb sd se hu ⟨.bl (!PyData.eqv d e), H, I, rfl, q⟩
end
def dPt (x y w : Int) : PyData := .tuple [.int x, .int y, .int w]
theorem rd_pt {K : PySem.W.Frag} {H : Hp} {p : Addr} {x y w : Int} (h : SqT K H p [.int x, .int y, .int w]) : RdD K H (dPt x y w) (.ref p) := by
  unfold dPt
  rw [RdD]
  exact ⟨p, _, rfl, h, by simp [RdDs, RdD]⟩
theorem dPt_shaped (x y w : Int) : SeqAt.shaped (dPt x y w) = true := by
  simp [dPt, SeqAt.shaped, PyData.canLay0, PyData.canLayAll0, PyData.depth, PyData.depthAll]
theorem dPt_eqv (x y w x' y' w' : Int) : PyData.eqv (dPt x y w) (dPt x' y' w') = decide (x = x' ∧ y = y' ∧ w = w') := by
  simp only [dPt, PyData.eqv, PyData.eqvAll, Bool.and_true]
  by_cases h1 : x = x' <;> by_cases h2 : y = y' <;> by_cases h3 : w = w' <;> simp [h1, h2, h3]
end L2
set_option Elab.async false
set_option linter.all false
set_option maxRecDepth 100000
set_option maxHeartbeats 4000000
namespace L2
open PySem PySem.Spec PyProof.Rows
section
variable {X : Cx}
theorem IxR.imp {r r' : R2} (h : IxR X r) (i : ∀ x y H Q, r' x y H Q → r x y H Q) : IxR X r' := fun value slice pins s σ H x y v u Q I rx ry q hs => h value slice pins s σ H x y v u Q I rx ry (i x y H Q q) hs
theorem CallR.imp {f : Value} {r r' : List V → Hp → VK → Prop} (h : CallR X f r) (i : ∀ xs H Q, r' xs H Q → r xs H Q) : CallR X f r' := fun pins s σ H xs us Q I rv q => h pins s σ H xs us Q I rv (i xs H Q q)
theorem OpR.imp {f : Value → Value → Sem Value} {r r' : R2} (h : OpR X f r) (i : ∀ x y H Q, r' x y H Q → r x y H Q) : OpR X f r' := fun pins s σ H x y v u Q I rx ry q => h pins s σ H x y v u Q I rx ry (i x y H Q q)
def rIxTH : R2 := fun x y H Q => ∃ p xs i v, x = .ref p ∧ y = .int i ∧ H p = some (.tup xs) ∧ atI xs i = some v ∧ Q v H
def rIxLH : R2 := fun x y H Q => ∃ p xs i v, x = .ref p ∧ y = .int i ∧ H p = some (.lst xs) ∧ atI xs i = some v ∧ Q v H
theorem ix_tupH : IxR X rIxTH := ix_tup.imp fun x y H Q ⟨p, xs, i, v, e1, e2, h, e3, q⟩ => ⟨p, xs, i, v, e1, e2, .of h, e3, q⟩
theorem ix_listH : IxR X rIxLH := ix_list.imp fun x y H Q ⟨p, xs, i, v, e1, e2, h, e3, q⟩ => ⟨p, xs, i, v, e1, e2, .of h, e3, q⟩
def rLenH : List V → Hp → VK → Prop := fun xs H Q => ∃ p ys, xs = [.ref p] ∧ (H p = some (.lst ys) ∨ H p = some (.tup ys)) ∧ Q (.int ys.length) H
theorem call_lenH : CallR X (.builtin "len") rLenH := call_len_seq.imp fun xs H Q ⟨p, ys, e, h, q⟩ => ⟨p, ys, e, h.imp .of .of, q⟩
def tyF (H : Hp) (x : V) : Option String := match x with
  | .non => some "NoneType"
  | .bl _ => some "bool"
  | .int _ => some "int"
  | .str _ => some "str"
  | .ref p => match H p with
    | some (.lst _) => some "list"
    | some (.tup _) => some "tuple"
    | _ => none
  | _ => none
theorem tyF_tyN {K : PySem.W.Frag} {H : Hp} {x : V} {T : String} (h : tyF H x = some T) : tyN K H x T := by
  cases x with
  | non => exact (Option.some.inj h).symm
  | bl b => exact (Option.some.inj h).symm
  | int i => exact (Option.some.inj h).symm
  | str z => exact (Option.some.inj h).symm
  | ref p =>
    unfold tyF at h
    dsimp only at h
    cases q : H p with
    | none => rw [q] at h; cases h
    | some o =>
      rw [q] at h
      cases o with
      | lst xs => exact .inl ⟨(Option.some.inj h).symm, xs, .of q⟩
      | tup xs => exact .inr (.inl ⟨(Option.some.inj h).symm, xs, .of q⟩)
      | _ => cases h
  | _ => cases h
def rIsiF (T : String) : List V → Hp → VK → Prop := fun xs H Q => ∃ x Tx, xs = [x, .ty T] ∧ tyF H x = some Tx ∧ Q (.bl (isiB Tx T)) H
theorem isiF {T : String} (h : CallR X (.builtin "isinstance") (rIsi X.K T)) : CallR X (.builtin "isinstance") (rIsiF T) := h.imp fun xs H Q ⟨x, Tx, e, t, q⟩ => ⟨x, Tx, e, tyF_tyN t, q⟩
end
theorem tyF_lst {H : Hp} {p : Addr} {xs : List V} (h : H p = some (.lst xs)) : tyF H (.ref p) = some "list" := by unfold tyF; dsimp only; rw [h]
theorem tyF_tup {H : Hp} {p : Addr} {xs : List V} (h : H p = some (.tup xs)) : tyF H (.ref p) = some "tuple" := by unfold tyF; dsimp only; rw [h]
theorem tyF_non {H : Hp} : tyF H .non = some "NoneType" := rfl
theorem tyF_bl {H : Hp} {b : Bool} : tyF H (.bl b) = some "bool" := rfl
theorem tyF_int {H : Hp} {i : Int} : tyF H (.int i) = some "int" := rfl
theorem tyF_str {H : Hp} {z : Str} : tyF H (.str z) = some "str" := rfl
theorem at0 {α : Type} {x : α} {r : List α} : atI (x :: r) 0 = some x := atI_nat (j := 0) rfl
theorem at1 {α : Type} {x y : α} {r : List α} : atI (x :: y :: r) 1 = some y := atI_nat (j := 1) rfl
theorem at2 {α : Type} {x y z : α} {r : List α} : atI (x :: y :: z :: r) 2 = some z := atI_nat (j := 2) rfl
theorem at3 {α : Type} {x y z t : α} {r : List α} : atI (x :: y :: z :: t :: r) 3 = some t := atI_nat (j := 3) rfl
theorem at4 {α : Type} {x y z t u : α} {r : List α} : atI (x :: y :: z :: t :: u :: r) 4 = some u := atI_nat (j := 4) rfl
theorem at5 {α : Type} {x y z t u v : α} {r : List α} : atI (x :: y :: z :: t :: u :: v :: r) 5 = some v := atI_nat (j := 5) rfl
theorem at6 {α : Type} {x y z t u v w : α} {r : List α} : atI (x :: y :: z :: t :: u :: v :: w :: r) 6 = some w := atI_nat (j := 6) rfl
theorem at7 {α : Type} {x y z t u v w x' : α} {r : List α} : atI (x :: y :: z :: t :: u :: v :: w :: x' :: r) 7 = some x' := atI_nat (j := 7) rfl
theorem at8 {α : Type} {x y z t u v w x' y' : α} {r : List α} : atI (x :: y :: z :: t :: u :: v :: w :: x' :: y' :: r) 8 = some y' := atI_nat (j := 8) rfl
theorem same_put {H H' : Hp} {D : Addr} {o : HO} (g : Same H H') (h : H D = none) : Same H (upd H' D o) := fun b u q => by
  rw [upd_ne (ne_of_none q h)]
  exact g b u q
end L2
set_option Elab.async false
set_option linter.all false
set_option maxRecDepth 100000
set_option maxHeartbeats 4000000
namespace L2
open PySem PySem.Spec PyProof.Rows
section
variable {X : Cx}
theorem SlR.imp {r r' : V → Option Int → Option Int → Hp → VK → Prop} (h : SlR X r) (i : ∀ x lo hi H Q, r' x lo hi H Q → r x lo hi H Q) : SlR X r' := fun pins s σ H x v vl vu lo hi sl Q I rx hs pl pu q => h pins s σ H x v vl vu lo hi sl Q I rx hs pl pu (i x lo hi H Q q)
def rSlH : V → Option Int → Option Int → Hp → VK → Prop := fun x lo hi H Q => ∃ a xs, x = .ref a ∧ H a = some (.lst xs) ∧ ∀ p, H p = none → Q (.ref p) (upd H p (.lst (cutV xs lo hi)))
theorem sl_listH : SlR X rSlH := sl_list.imp fun x lo hi H Q ⟨a, xs, e, h, q⟩ => ⟨a, xs, e, .of h, q⟩
def rListH : List V → Hp → VK → Prop := fun xs H Q => ∃ p ys, xs = [.ref p] ∧ (H p = some (.lst ys) ∨ H p = some (.tup ys)) ∧ ∀ l, H l = none → Q (.ref l) (upd H l (.lst ys))
theorem call_listH : CallR X (.type "list") rListH := call_list_of.imp fun xs H Q ⟨p, ys, e, h, q⟩ => ⟨p, ys, e, h.imp .of .of, q⟩
def rIntB : List V → Hp → VK → Prop := fun xs H Q => ∃ k, xs = [.bl k] ∧ Q (.int (if k = true then 1 else 0)) H
theorem call_intB : CallR X (.type "int") rIntB := call_int1.imp fun xs H Q h => .inr h
theorem tyV_of {K : PySem.W.Frag} {H : Hp} {p : Addr} {xs : List V} (h : H p = some (.lst xs)) : tyV K "list" (.ref p) H := .inl ⟨rfl, xs, .of h⟩
theorem bt_min : bootBuiltins "min" = some (.builtin "min") := by decide +kernel
end
section
variable {prog : Program} {w : World} {A : Around} {E : Value → Shared → Prop}
end
section
variable {X : Cx} {pos p2 : Pos}
end
end L2
set_option Elab.async false
set_option linter.all false
set_option maxRecDepth 100000
set_option maxHeartbeats 4000000
namespace L2
open PySem PySem.Spec PyProof.Rows
def ForW (J : It) (g : TG) (tb : TS) (D : Ends) (σ : St) (H : Hp) : Prop := ∃ W : Nat → Nat → St → Hp → Prop, (∃ m, W 0 m σ H) ∧ ∀ i m σ H, W i m σ H →
  (J.stop i H ∧ D.nx σ H) ∨ (J.go i H ∧ ∃ N : St → Hp → Prop, (∀ σ' H', N σ' H' → ∃ m', m' < m ∧ W (i + 1) m' σ' H') ∧ ∀ x H', J.yld i H x H' → g x σ H' fun σ2 H2 => tb { D with nx := N, ct := N, bk := D.nx } σ2 H2)
theorem tFor_mk {wi : TI} {g : TG} {tb : TS} {D : Ends} {σ : St} {H : Hp} (h : wi σ H fun J H1 => ForW J g tb D σ H1) : tFor wi g tb D σ H := h
theorem forW_list {K : PySem.W.Frag} {a : Addr} {xs : List V} {g : TG} {tb : TS} {D : Ends} {σ : St} {H : Hp} (Pv : Nat → St → Hp → Prop) (h0 : Pv 0 σ H) (hl : ∀ i σ H, i ≤ xs.length → Pv i σ H → SqL K H a xs)
    (hs : ∀ i x σ H, xs[i]? = some x → Pv i σ H → g x σ H fun σ2 H2 => tb { D with nx := Pv (i + 1), ct := Pv (i + 1), bk := D.nx } σ2 H2) (hd : ∀ σ H, Pv xs.length σ H → D.nx σ H) : ForW (Itl K a) g tb D σ H := for_list Pv h0 hl hs hd
section
open PySem.W
variable {M : Model} {K : PySem.W.Frag}
end
section
variable {X : Cx} {body suite : List Stmt} {b₀ : Stmt} {x nm : Str} {np hpos pos : Pos} {i : Nat} {C : Addr} {tb : XK → TS} {th : TS}
end
end L2
set_option Elab.async false
set_option linter.all false
set_option maxRecDepth 100000
set_option maxHeartbeats 4000000
namespace L2
open PySem PySem.Spec PyProof.Rows
section
variable {X : Cx}
def rIxA : R2 := fun x y H Q => ∃ p xs i v, x = .ref p ∧ y = .int i ∧ (H p = some (.lst xs) ∨ H p = some (.tup xs)) ∧ atI xs i = some v ∧ Q v H
theorem ix_any : IxR X rIxA := fun value slice pins s σ H x y v u Q I rx ry q hs => by
  obtain ⟨p, xs, i, z, e1, e2, h | h, e3, q⟩ := q
  · exact ix_listH value slice pins s σ H x y v u Q I rx ry ⟨p, xs, i, z, e1, e2, h, e3, q⟩ hs
  · exact ix_tupH value slice pins s σ H x y v u Q I rx ry ⟨p, xs, i, z, e1, e2, h, e3, q⟩ hs
end
theorem isi_tb : isiB "tuple" "bool" = false := by decide +kernel
theorem isi_lb : isiB "list" "bool" = false := by decide +kernel
theorem isi_lt : isiB "list" "tuple" = false := by decide +kernel
end L2
set_option Elab.async false
set_option linter.all false
set_option maxRecDepth 100000
set_option maxHeartbeats 4000000
namespace L2
open PySem PySem.Spec PyProof.Rows
section
open PySem.SeqAt
open PySem.AutoSeq1 (wpAny_loadPart')
open PySem.MeetsSeq PySem.MeetsSeq2 PySem.MeetsSeq3
end
section
variable {X : Cx}
end
section
variable {X : Cx} {pos : Pos}
def gTupH (n : Nat) (t : TGs) : TG := fun v σ H Q => ∃ a xs, v = .ref a ∧ H a = some (.tup xs) ∧ xs.length = n ∧ t xs σ H Q
theorem pg_tupH {es : List Expr} {k : Nat} {t : TGs} {n : Nat} (hc : X.calm = true) (h : PGs X es t) (hn : (assignEach es X.env).length = n := by rfl) (hst : (assignEach es X.env).findIdx? (·.1) = none := by rfl) : PG X (.Tuple es k pos) (gTupH n t) :=
  fun pins s σ H v u Q I r hw => pg_tup hc h hn hst pins s σ H v u Q I r (by
    obtain ⟨a, xs, e, q, l, z⟩ := hw
    exact ⟨a, xs, e, .of q, l, z⟩)
end
end L2
set_option Elab.async false
set_option linter.all false
set_option maxRecDepth 100000
set_option maxHeartbeats 4000000
namespace L2
open PySem PySem.Spec PyProof.Rows
section
variable {prog : Program} {w : World} {A : Around} {E : Value → Shared → Prop} {s : Shared}
end
section
variable {prog : Program} {w : World} {A : Around} {E : Value → Shared → Prop} {s : Shared}
end
section
variable {X : Cx}
end
section
variable {X : Cx}
end
end L2
set_option Elab.async false
set_option linter.all false
set_option maxRecDepth 100000
set_option maxHeartbeats 4000000
namespace L2
open PySem PySem.Spec PyProof.Rows
open PySem.Builtin PySem.Builtin.Str
section
variable {X : Cx}
end
section
variable {X : Cx} {tg : Expr}
end
end L2
set_option Elab.async false
set_option linter.all false
set_option maxRecDepth 100000
set_option maxHeartbeats 4000000
namespace L2
open PySem PySem.Spec PyProof.Rows
section
variable {X : Cx}
theorem vals_bools : ∀ (bs : List Bool) (its : List Value), Vals (bs.map V.bl) its → its = bs.map Value.bool
  | [], its, h => by cases h; rfl
  | b :: bs, its, h => by
    cases h with
    | cons r t =>
      cases r
      rw [vals_bools bs _ t]
      rfl
def rAny : List V → Hp → VK → Prop := fun xs H Q => ∃ (p : Addr) (bs : List Bool), xs = [.ref p] ∧ H p = some (.lst (bs.map V.bl)) ∧ Q (.bl (bs.any id)) H
theorem range_any (bs : List Bool) : ((List.range bs.length).any fun i => bs.getD i false) = bs.any id := by
  rw [Bool.eq_iff_iff, List.any_eq_true, List.any_eq_true]
  constructor
  · rintro ⟨i, hi, h⟩
    have hi := List.mem_range.mp hi
    rw [List.getD_eq_getElem?_getD, List.getElem?_eq_getElem hi] at h
    exact ⟨_, List.getElem_mem _, h⟩
  · rintro ⟨b, hb, h⟩
    obtain ⟨i, hi, e⟩ := List.mem_iff_getElem.mp hb
    refine ⟨i, List.mem_range.mpr hi, ?_⟩
    rw [List.getD_eq_getElem?_getD, List.getElem?_eq_getElem hi, e]
    exact h
theorem call_any (hc : X.calm = true) : CallR X (.builtin "any") rAny := by
  intro pins s σ H xs us Q I r h
  obtain ⟨p, bs, rfl, hp, q⟩ := h
  obtain ⟨u, rfl, ru⟩ := vals1 r
  cases ru
  obtain ⟨its, rv, pl, hz⟩ := I.list (.of hp)
  have e := vals_bools bs its rv
  subst e
  have ne : p ≠ s.heap.objs.size := Nat.ne_of_lt pl.lt
  refine call_any_walk (wpAny_pyIter_list pl.isList ⟨s.heap.objs.size, _, _, _, _, _, fun i => bs.getD i false, rfl, Walks.list (show X.A.in1.handled = none from I.ok.hd hc) _ p ne (bs.map Value.bool).toArray, ⟨⟨_, Heap.get?_push_size _ rfl, rfl, rfl⟩, pl.isList.push _⟩, ?_, fun g tk kk => ?_⟩)
  · intro i v s' Q' E' hv hq
    have hv : (bs.map Value.bool)[i]? = some v := by simpa using hv
    rw [List.getElem?_map] at hv
    cases e : bs[i]? with
    | none => rw [e] at hv; cases hv
    | some b =>
      rw [e] at hv
      cases hv
      have hq : Q' (bs.getD i false) s' := hq
      rw [List.getD_eq_getElem?_getD, e] at hq
      exact wpAny_truthy_bool hq
  · have en : (bs.map Value.bool).toArray.size = bs.length := by simp
    rw [en, range_any]
    refine ⟨.bl _, H, I.kept (t' := tk) fun b o e => kk b o ?_ (Heap.get?_push_of_some _ e), rfl, q⟩
    intro z
    have z : b = s.heap.objs.size := by simpa using z
    exact absurd (Heap.lt_size e) (by rw [z]; exact Nat.lt_irrefl _)
theorem bt_any : bootBuiltins "any" = some (.builtin "any") := by decide +kernel
end
section
variable {P : Program} {w : World} {K : PySem.W.Frag} {mg : Str → Option Value} {base : Heap} {N : List Str} {qual : Str} {scope : Scope} {f : Addr} {cd : Value} {A : Around} {outer : List Env} {s₀ : Shared} {H₀ : Hp} {E : XK}
end
end L2
set_option Elab.async false
set_option linter.all false
set_option maxRecDepth 100000
set_option maxHeartbeats 4000000
namespace L2
open PySem PySem.Spec PyProof.Rows
open PySem.W (KasT kas_asc kas_desc kas_rev kas_tail3 kas_descPart kas_count kas_place kas_bin kas_sort kas_ask kas_item)
def ansT {α : Type} (ans : Nat → Nat → Bool) : KasT α → α
  | .ret a => a
  | .ask i j k => ansT ans (k (ans i j))
def Asks {α : Type} (n : Nat) (R : α → Prop) : KasT α → Prop
  | .ret a => R a
  | .ask i j k => i < n ∧ j < n ∧ ∀ b, Asks n R (k b)
theorem Asks.bind {α β : Type} {n : Nat} {R : α → Prop} {S : β → Prop} {f : α → KasT β} : ∀ {t : KasT α}, Asks n R t → (∀ a, R a → Asks n S (f a)) → Asks n S (t.bind f)
  | .ret a, h, k => k a h
  | .ask i j g, h, k => ⟨h.1, h.2.1, fun b => Asks.bind (h.2.2 b) k⟩
theorem Asks.ends {α : Type} {n : Nat} {R : α → Prop} {ans : Nat → Nat → Bool} : ∀ {t : KasT α}, Asks n R t → R (ansT ans t)
  | .ret _, h => h
  | .ask i j g, h => Asks.ends (n := n) (t := g (ans i j)) (h.2.2 (ans i j))
theorem Asks.wp {α : Type} {n : Nat} {R : α → Prop} {ans : Nat → Nat → Bool} {cmp : Nat → Nat → (Bool → Shared → Prop) → Shared → Prop} {s : Shared} {Q : α → Shared → Prop} (hc : ∀ i j C, i < n → j < n → C (ans i j) s → cmp i j C s) :
    ∀ {t : KasT α}, Asks n R t → Q (ansT ans t) s → t.kasWp cmp Q s
  | .ret _, _, q => q
  | .ask i j g, h, q => hc i j _ h.1 h.2.1 (Asks.wp (n := n) (t := g (ans i j)) hc (h.2.2 (ans i j)) q)
def Ord (n : Nat) (p : Array Nat) : Prop := p.toList.Perm (List.range n)
theorem Ord.get {n : Nat} {p : Array Nat} (h : Ord n p) (hn : 0 < n) (i : Nat) : p.getD i 0 < n := by
  by_cases hi : i < p.size
  · have e : p.getD i 0 = p[i] := by simp [Array.getD, hi]
    rw [e]
    exact List.mem_range.mp (h.mem_iff.mp (by simp))
  · have e : p.getD i 0 = 0 := by simp [Array.getD, hi]
    rw [e]
    exact hn
theorem Ord.of {n : Nat} {p q : Array Nat} (h : Ord n p) (e : q.Perm p) : Ord n q := (Array.perm_iff_toList_perm.mp e).trans h
theorem Ord.rev {n : Nat} {p : Array Nat} (h : Ord n p) (i j : Nat) : Ord n (kas_rev p i j) := h.of (mirror_perm _ _ _ _)
theorem asks_asc {n : Nat} {p : Array Nat} (h : Ord n p) (hn : 0 < n) : ∀ (f m : Nat), Asks n (fun _ => True) (kas_asc p f m)
  | 0, _ => trivial
  | f + 1, m => ⟨h.get hn _, h.get hn _, fun b => by
    cases b with
    | true => dsimp only; rw [if_pos rfl]; trivial
    | false => dsimp only; rw [if_neg (by decide)]; exact asks_asc h hn f (m + 1)⟩
theorem asks_desc {n : Nat} (hn : 0 < n) : ∀ (f : Nat) {p : Array Nat} (m q : Nat), Ord n p → Asks n (fun r => Ord n r.1) (kas_desc f p m q)
  | 0, _, _, _, h => h
  | f + 1, p, m, q, h => ⟨h.get hn _, h.get hn _, fun b => by
    cases b with
    | true =>
      dsimp only
      rw [if_pos rfl]
      by_cases z : q > 0
      · rw [if_pos z]; exact asks_desc hn f _ _ (h.rev _ _)
      · rw [if_neg z]; exact asks_desc hn f _ _ h
    | false =>
      dsimp only
      rw [if_neg (by decide)]
      refine ⟨h.get hn _, h.get hn _, fun d => ?_⟩
      cases d with
      | true => dsimp only; rw [if_pos rfl]; exact h
      | false => dsimp only; rw [if_neg (by decide)]; exact asks_desc hn f _ _ h⟩
theorem asks_tail3 {n a b : Nat} {p : Array Nat} (hn : 0 < n) (h : Ord n p) : Asks n (fun r => Ord n r.2) (kas_tail3 a b p) :=
  Asks.bind (asks_asc (h.rev _ _) hn _ _) fun _ _ => h.rev _ _
theorem asks_descPart {n a b : Nat} {p : Array Nat} (hn : 0 < n) (h : Ord n p) : Asks n (fun r => Ord n r.2) (kas_descPart a b p) :=
  Asks.bind (asks_desc hn _ _ _ h) fun r hr => by
    by_cases z : r.2.2 > 0
    · rw [if_pos z]; exact asks_tail3 hn (hr.rev _ _)
    · rw [if_neg z]; exact asks_tail3 hn hr
theorem asks_count {n b : Nat} {p : Array Nat} (hn : 0 < n) (h : Ord n p) : Asks n (fun r => Ord n r.2) (kas_count b p) :=
  Asks.bind (asks_asc h hn _ _) fun m _ => by
    by_cases z : (m == b) = true
    · rw [if_pos z]; exact h
    · rw [if_neg z]
      by_cases y : m > 1
      · rw [if_pos y]
        refine ⟨h.get hn _, h.get hn _, fun c => ?_⟩
        cases c with
        | true => dsimp only; rw [if_pos rfl]; exact h
        | false => dsimp only; rw [if_neg (by decide)]; exact asks_descPart hn (h.rev _ _)
      · rw [if_neg y]; exact asks_descPart hn h
theorem asks_place {n : Nat} {p : Array Nat} (hn : 0 < n) (h : Ord n p) (k : Nat) : ∀ (f l r : Nat), Asks n (fun _ => True) (kas_place p k f l r)
  | 0, _, _ => trivial
  | f + 1, l, r => by
    unfold kas_place
    by_cases z : l ≥ r
    · rw [if_pos z]; trivial
    · rw [if_neg z]
      refine ⟨h.get hn _, h.get hn _, fun c => ?_⟩
      cases c with
      | true => dsimp only; rw [if_pos rfl]; exact asks_place hn h k f _ _
      | false => dsimp only; rw [if_neg (by decide)]; exact asks_place hn h k f _ _
theorem asks_bin {n : Nat} (hn : 0 < n) : ∀ (f : Nat) {p : Array Nat} (k : Nat), Ord n p → Asks n (Ord n) (kas_bin f p k)
  | 0, _, _, h => h
  | f + 1, p, k, h => Asks.bind (asks_place hn h k _ _ _) fun l _ => asks_bin hn f (k + 1) (h.of (bubble_perm _ _ _))
theorem asks_sort {n : Nat} (hn : 0 < n) : Asks n (Ord n) (kas_sort n) :=
  Asks.bind (asks_count hn (by unfold Ord; simp)) fun r hr => by
    by_cases z : r.1 < n
    · rw [if_pos z]; exact asks_bin hn _ _ hr
    · rw [if_neg z]; exact hr
def Keeps (g h : Heap) : Prop := ∀ b o, g.get? b = some o → h.get? b = some o
theorem Keeps.push {g h : Heap} (k : Keeps g h) (o : Obj) : Keeps g (h.push o) := fun b x e => Heap.get?_push_of_some _ (k b x e)
theorem Keeps.upd {g h : Heap} {a : Addr} {f : Obj → Obj} (k : Keeps g h) (ha : g.objs.size ≤ a) : Keeps g (h.update a f) := fun b x e => by
  rw [Heap.get?_update_ne _ _ _ _ (Nat.ne_of_lt (Nat.lt_of_lt_of_le (Heap.lt_size e) ha))]
  exact k b x e
theorem range_getD (vs : List Value) : ((List.range vs.length).map fun i => vs.getD i Value.none) = vs := by
  refine List.ext_getElem (by simp) fun i h1 h2 => ?_
  have hi : i < vs.length := h2
  simp [hi]
section
variable {prog : Program} {w : World} {A : Around} {E : Value → Shared → Prop} {s : Shared} {vs : List Value} {κ : SortKind} {ans : Nat → Nat → Bool} {g : Heap}
theorem sort_at {a : Addr} {n : Nat} {P : PySem.Fin → Shared → Prop} (hg : Keeps g s.heap) (ga : g.objs.size ≤ a) (ho : s.heap.get? a = some (seqObj "list" vs.toArray n)) (h64 : vs.length < 64)
    (hk : 2 ≤ vs.length → ∀ h', Keeps g h' → ∀ Q', Q' κ { s with heap := h' } → wpAny (model prog w) A (keyKind' vs.toArray) Q' (fun _ _ => False) { s with heap := h' })
    (ha : 2 ≤ vs.length → ∀ h', Keeps g h' → ∀ i j C, i < vs.length → j < vs.length → C (ans i j) { s with heap := h' } → kas_ask prog w A κ vs i j C { s with heap := h' })
    (q : ∀ (p : Array Nat) h' c, Keeps g h' → Ord vs.length p → (2 ≤ vs.length → p = ansT ans (kas_sort vs.length)) → h'.get? a = some (seqObj "list" (List.toArray (p.toList.map fun i => vs.getD i Value.none)) c) → P (.done (.ret .none)) { s with heap := h' }) :
    wpAny (model prog w) A (Builtin.«list.sort» ⟨[.ref a], []⟩) P E s := by
  have z0 : vs.toArray.size = vs.length := rfl
  have zl : vs.length ≤ sizeLine := Nat.le_trans (Nat.le_of_lt h64) (by decide)
  have k1 : Keeps g (s.heap.update a (Obj.mapSeq fun _ => (#[] : Array Value))) := hg.upd ga
  obtain ⟨e1, o1⟩ : ∃ e1, (s.heap.update a (Obj.mapSeq fun _ => (#[] : Array Value))).get? a = some (seqObj "list" #[] e1) := ⟨_, get?_update_seq ho _⟩
  have k3 := (k1.push (seqObj "tuple" vs.toArray 0)).push (seqObj "list" #[] 0)
  have o3 := Heap.get?_push_of_some (seqObj "list" #[] 0) (Heap.get?_push_of_some (seqObj "tuple" vs.toArray 0) o1)
  have fin : ∀ (p : Array Nat), p.size = vs.length → Ord vs.length p → (2 ≤ vs.length → p = ansT ans (kas_sort vs.length)) → ∀ (st : SortSt), (arrOf st).map (·.2) = List.toArray (p.toList.map fun i => vs.getD i Value.none) → failedOf st = none →
      P (.done (.ret .none)) { s with heap := (((s.heap.update a (Obj.mapSeq fun _ => (#[] : Array Value))).push (seqObj "tuple" vs.toArray 0)).push (seqObj "list" #[] 0)).update a (Obj.mapSeq fun _ => (arrOf st).map (·.2)) } := fun p hp or e st hs _ => by
    rw [hs]
    exact q p _ _ (k3.upd ga) or e (get?_update_seq o3 fun _ => List.toArray (p.toList.map fun i => vs.getD i Value.none))
  rw [list_sort_plain]
  refine wpAny_bind (listItems_at ho rfl (wpAny_bind (listUpdate_at ho rfl (wpAny_bind (seqEpoch_at o1 rfl (wpAny_bind (wpAny_newTuple (wpAny_bind (wpAny_newList (wpAny_holding ?_) (Nat.zero_le _))) zl)))) zl (Nat.zero_le _))))
  dsimp only
  by_cases h2 : vs.length < 2
  · rw [z0, if_pos h2, if_pos h2, pure_bind]
    have hs : (arrOf (SortSt.mk' general' (vs.toArray.zip vs.toArray) #[] 7 none)).map (·.2) = List.toArray ((List.toArray (List.range vs.length)).toList.map fun i => vs.getD i Value.none) := by
      show (vs.toArray.zip vs.toArray).map (·.2) = _
      rw [show (List.toArray (List.range vs.length)).toList = List.range vs.length from rfl, range_getD]
      apply Array.toList_inj.mp
      simp [List.map_snd_zip]
    rw [StateT.run_pure]
    refine wpAny_bind (wpAny_pure (wpAny_bind (seqEpoch_at o3 rfl (wpAny_bind (listUpdate_at o3 rfl ?_ (Nat.zero_le _) ?_)))))
    · simp only [show failedOf (SortSt.mk' general' (vs.toArray.zip vs.toArray) #[] 7 none) = none from rfl, bne_self_eq_false, Bool.false_eq_true, if_false]
      exact wpAny_pure (fin (List.toArray (List.range vs.length)) (by simp) (by unfold Ord; simp) (fun z => absurd h2 (Nat.not_lt.mpr z)) _ hs rfl)
    · rw [hs]
      simp
      omega
  · have h2' : 2 ≤ vs.length := by omega
    rw [z0, if_neg h2, if_neg h2]
    refine wpAny_bind (hk h2' _ k3 _ ?_ |> fun x => wpAny_mono x (fun _ _ y => y) fun _ _ z => z.elim)
    have run := Asks.wp (R := Ord vs.length) (Q := fun p s' => s' = { s with heap := ((s.heap.update a (Obj.mapSeq fun _ => (#[] : Array Value))).push (seqObj "tuple" vs.toArray 0)).push (seqObj "list" #[] 0) } ∧ Ord vs.length p ∧ p = ansT ans (kas_sort vs.length)) (fun i j C hi hj => ha h2' _ k3 i j C hi hj) (asks_sort (by omega)) ⟨rfl, Asks.ends (asks_sort (by omega)), rfl⟩
    refine wpAny_bind (wpAny_mono (PySem.W.kat_run (E := E) (ks := vs) (vs := vs) (Q := fun st s' => ∃ p : Array Nat, p.size = vs.length ∧ arrOf st = p.map (kas_item (vs.toArray.zip vs.toArray)) ∧ failedOf st = none ∧ s' = { s with heap := ((s.heap.update a (Obj.mapSeq fun _ => (#[] : Array Value))).push (seqObj "tuple" vs.toArray 0)).push (seqObj "list" #[] 0) } ∧ Ord vs.length p ∧ p = ansT ans (kas_sort vs.length)) rfl h2' h64 (fun p st s' b1 b2 b3 b4 => ⟨p, b1, b2, b3, b4⟩) run) ?_ fun _ _ e => e)
    rintro ⟨⟨⟩, st⟩ s' ⟨p, hp, har, hf, rfl, or, e⟩
    have hs := PySem.W.kat_snds (ks := vs) (vs := vs) rfl har
    dsimp only
    refine wpAny_bind (seqEpoch_at o3 rfl (wpAny_bind (listUpdate_at o3 rfl ?_ (Nat.zero_le _) ?_)))
    · rw [hf]
      simp only [bne_self_eq_false, Bool.false_eq_true, if_false]
      exact wpAny_pure (fin p hp or (fun _ => e) st hs hf)
    · rw [hs]
      simp [hp]
      omega
theorem sorted_at {l : Addr} {Q : Value → Shared → Prop} (hl : s.heap.IsList l vs.toArray) (h64 : vs.length < 64)
    (hk : 2 ≤ vs.length → ∀ h', Keeps s.heap h' → ∀ Q', Q' κ { s with heap := h' } → wpAny (model prog w) A.in1.in1 (keyKind' vs.toArray) Q' (fun _ _ => False) { s with heap := h' })
    (ha : 2 ≤ vs.length → ∀ h', Keeps s.heap h' → ∀ i j C, i < vs.length → j < vs.length → C (ans i j) { s with heap := h' } → kas_ask prog w A.in1.in1 κ vs i j C { s with heap := h' })
    (q : ∀ (p : Array Nat) h' c, Keeps s.heap h' → Ord vs.length p → (2 ≤ vs.length → p = ansT ans (kas_sort vs.length)) → h'.get? (s.heap.objs.size + 1) = some (seqObj "list" (List.toArray (p.toList.map fun i => vs.getD i Value.none)) c) → Q (.ref (s.heap.objs.size + 1)) { s with heap := h' }) :
    wpAny (model prog w) A (call (.builtin "sorted") [.ref l]) Q E s := by
  have zl : vs.length ≤ sizeLine := Nat.le_trans (Nat.le_of_lt h64) (by decide)
  have k0 : Keeps s.heap s.heap := fun _ _ e => e
  have k2 := ((k0.push (seqObj "list" #[] 0)).upd (a := s.heap.objs.size) (f := Obj.mapSeq (· ++ vs.toArray)) (Nat.le_refl _)).push (seqObj "list" vs.toArray 0)
  have z2 : ((s.heap.push (seqObj "list" #[] 0)).update s.heap.objs.size (Obj.mapSeq (· ++ vs.toArray))).objs.size = s.heap.objs.size + 1 := by
    rw [Heap.size_update, size_push']
  have o2 : (((s.heap.push (seqObj "list" #[] 0)).update s.heap.objs.size (Obj.mapSeq (· ++ vs.toArray))).push (seqObj "list" vs.toArray 0)).get? (s.heap.objs.size + 1) = some (seqObj "list" vs.toArray 0) :=
    z2 ▸ Heap.get?_push_size _ rfl
  refine Calls.call_function_entry kind_sorted plain_sorted entry_sorted (args_sorted1 _) ?_
  unfold Builtin.«sorted»
  refine wpAny_bind (m := checkCount _ _ _ _) (wpAny_pure (wpAny_bind (collect_list hl (wpAny_bind (wpAny_newList ?_ zl)) zl)))
  rw [show (({ s with heap := (s.heap.push (seqObj "list" #[] 0)).update s.heap.objs.size (Obj.mapSeq (· ++ vs.toArray)) } : Shared).heap.objs.size) = s.heap.objs.size + 1 from z2]
  refine wpAny_bind (wpAny_holding (wpAny_call_entry slot_list_sort ⟨_, o2, rfl⟩ entry_list_sort (sort_at (s := { s with heap := _ }) (κ := κ) (ans := ans) k2 (Nat.le_succ _) o2 h64 hk ha fun p h' c b1 b2 b3 b4 => ⟨_, rfl, ?_⟩) (args_list_sort _)))
  exact wpAny_pure ⟨_, rfl, q p h' c b1 b2 b3 b4⟩
end
end L2
set_option Elab.async false
set_option linter.all false
set_option maxRecDepth 100000
set_option maxHeartbeats 4000000
namespace L2
open PySem PySem.Spec PyProof.Rows
open PySem.W (KasT kas_sort kas_ask)
section
open PySem.SeqAt
open PySem.AutoSeq1 (wpAny_loadPart')
open PySem.MeetsSeq PySem.MeetsSeq2 PySem.MeetsSeq3
theorem ltRc {A : Around} {s : Shared} {a c : Int} {t u : Tok} (prog : Program) (w : World) (E : Value → Shared → Prop) (Q : Value → Shared → Prop) (h : Q (.bool (decide (a < c))) s) : wpAny (model prog w) A (richCompare .Lt (.int a t) (.int c u)) Q E s :=
  (PyProof.Rows.lt_int h : wpAny (model prog w) A (compareOp .Lt (.int a t) (.int c u)) Q E s)
theorem tupleLt (l b : Addr) (items items2 : Array Value) (n n2 : Nat) (dd dd2 : Option Addr) (sl sl2 : Array (Option Value)) (ns ms : List Int) (hlen : ns.length = ms.length) (hi : IntsAre items.toList ns) (hj : IntsAre items2.toList ms) :
    Meets (Builtin.«tuple.__lt__» ⟨[.ref l, .ref b], []⟩)
      (fun _ R s => s.heap.get? l = some { cls := .type "tuple", dict := dd, data := .seq items n, slots := sl } ∧ s.heap.get? b = some { cls := .type "tuple", dict := dd2, data := .seq items2 n2, slots := sl2 } ∧ R (.ok (.ret (.bool (HT.lexLt ns ms)))) s) :=
  .of_wp fun prog w A R s h => by
    obtain ⟨hp, g, d, tk, os⟩ := s
    obtain ⟨hl, hb, h⟩ := h
    have f2 := AutoSeq1.sub_tuple_tuple
    have z1 : items.size = ns.length := by rw [← hi.length]; simp
    have z2 : items2.size = ms.length := by rw [← hj.length]; simp
    wp_walk using wpAny_loadPart' hl, wpAny_loadPart' hb, wpAny_forIn_list _ (fun rest b s' => b.1 = none ∧ s' = ⟨hp, g, d, tk, os⟩ ∧ ∃ (vs ws : List Value) (ns' ms' : List Int), rest = vs.zip ws ∧ IntsAre vs ns' ∧ IntsAre ws ms' ∧ ns'.length = ms'.length ∧ R (.ok (.ret (.bool (HT.lexLt ns' ms')))) ⟨hp, g, d, tk, os⟩) _
    case turn =>
      rintro ⟨y, x⟩ rest b s' ⟨hb', rfl, vs, ws, ns', ms', hz, hvi, hwi, hln, hR⟩
      cases hvi with
      | nil => rw [List.zip_nil_left] at hz; cases hz
      | cons a t hv =>
        cases hwi with
        | nil => rw [List.zip_nil_right] at hz; cases hz
        | cons c u hw =>
          rw [List.zip_cons_cons] at hz
          injection hz with q1 q2
          injection q1 with q3 q4
          subst q3 q4
          rw [HT.lexLt_cons] at hR
          simp only [List.length_cons] at hln
          obtain ⟨e, he, hiff⟩ := HT.eqAt_int A.in1 ⟨hp, g, d, tk, os⟩ a t c u
          refine wpAny_bind (he prog w _ _ ?_)
          cases e with
          | true =>
            rw [if_pos (hiff.mp rfl)] at hR
            wp_walk
            exact ⟨rfl, rfl, _, _, _, _, q2, hv, hw, by omega, hR⟩
          | false =>
            rw [if_neg (fun q => absurd (hiff.mpr q) Bool.false_ne_true)] at hR
            have hri := ltRc (A := A.in1) (s := ⟨hp, g, d, tk, os⟩) (a := a) (c := c) (t := t) (u := u) prog w
            wp_walk using hri
            exact ⟨_, rfl, by simpa using hR⟩
    case fin =>
      rintro ⟨b1, b2⟩ s' ⟨hb', rfl, vs, ws, ns', ms', hz, hvi, hwi, hln, hR⟩
      simp only at hb'
      subst hb'
      have hv : HT.lexLt ns' ms' = decide (items.size < items2.size) := by
        rw [decide_eq_false (by omega)]
        cases hvi with
        | nil =>
          cases hwi with
          | nil => rfl
          | cons c u hw => cases hln
        | cons a t hv =>
          cases hwi with
          | nil => cases hln
          | cons c u hw => rw [List.zip_cons_cons] at hz; cases hz
      rw [hv] at hR
      wp_walk
      exact ⟨_, rfl, by simpa [Builtin.Tuple.tupleCompareSizes] using hR⟩
    case h =>
      exact ⟨rfl, rfl, items.toList, items2.toList, ns, ms, rfl, hi, hj, hlen, h⟩
end
def TupI (h : Heap) (v : Value) (ns : List Int) : Prop := ∃ (a : Addr) (its : Array Value) (n : Nat) (dd : Option Addr) (sl : Array (Option Value)), v = .ref a ∧ h.get? a = some { cls := .type "tuple", dict := dd, data := .seq its n, slots := sl } ∧ IntsAre its.toList ns
def TupP (h : Heap) (v : Value) (ns ms : List Int) : Prop := ∃ (a : Addr) (x y : Value) (n : Nat) (dd : Option Addr) (sl : Array (Option Value)), v = .ref a ∧ h.get? a = some { cls := .type "tuple", dict := dd, data := .seq #[x, y] n, slots := sl } ∧ TupI h x ns ∧ TupI h y ms
theorem TupI.keeps {g h : Heap} {v : Value} {ns : List Int} (t : TupI g v ns) (k : Keeps g h) : TupI h v ns := by
  obtain ⟨a, its, n, dd, sl, e, o, i⟩ := t
  exact ⟨a, its, n, dd, sl, e, k _ _ o, i⟩
theorem TupP.keeps {g h : Heap} {v : Value} {ns ms : List Int} (t : TupP g v ns ms) (k : Keeps g h) : TupP h v ns ms := by
  obtain ⟨a, x, y, n, dd, sl, e, o, i, j⟩ := t
  exact ⟨a, x, y, n, dd, sl, e, k _ _ o, i.keeps k, j.keeps k⟩
theorem reads_ints {h : Heap} : ∀ {us : List Value} {ns : List Int}, IntsAre us ns → ∃ as, ReadsAll h us (ns.map PyData.int) as
  | _, _, .nil => ⟨_, .nil⟩
  | _, _, .cons n t r => let ⟨_, q⟩ := reads_ints r; ⟨_, .cons (.int n t) q⟩
theorem TupI.reads {h : Heap} {v : Value} {ns : List Int} (t : TupI h v ns) : ∃ as, Reads h v (.tuple (ns.map PyData.int)) as := by
  obtain ⟨a, its, n, dd, sl, rfl, o, i⟩ := t
  obtain ⟨as, r⟩ := reads_ints (h := h) i
  exact ⟨_, reads_tuple_at o rfl rfl (by simpa using r)⟩
theorem lay_ints : ∀ ns : List Int, PyData.canLayAll0 (ns.map PyData.int) = true
  | [] => rfl
  | n :: ns => by simp only [List.map_cons, PyData.canLayAll0, lay_ints ns, PyData.canLay0, Bool.and_self]
theorem lay_tup (ns : List Int) : PyData.canLay0 (.tuple (ns.map PyData.int)) = true := by
  simp only [PyData.canLay0, lay_ints ns]
theorem dep_ints : ∀ ns : List Int, PyData.depthAll (ns.map PyData.int) ≤ 1
  | [] => by simp [PyData.depthAll]
  | n :: ns => by
    have := dep_ints ns
    simp only [List.map_cons, PyData.depthAll, PyData.depth]
    omega
theorem eqv_ints : ∀ {ns ms : List Int}, PyData.eqvAll (ns.map PyData.int) (ms.map PyData.int) = decide (ns = ms)
  | [], [] => rfl
  | [], m :: ms => rfl
  | n :: ns, [] => rfl
  | n :: ns, m :: ms => by
    simp only [List.map_cons, PyData.eqvAll, PyData.eqv, eqv_ints]
    by_cases h1 : n = m <;> by_cases h2 : ns = ms <;> simp [h1, h2]
section
variable {prog : Program} {w : World} {A : Around} {E : Value → Shared → Prop} {s : Shared} {C : Bool → Shared → Prop}
theorem eq_tupI {x y : Value} {ns ms : List Int} (hx : TupI s.heap x ns) (hy : TupI s.heap y ms) (hu : A.units + 64 < cLine) (q : C (decide (ns = ms)) s) : wpAny (model prog w) A (eqBool x y) C E s := by
  obtain ⟨as, ra⟩ := hx.reads
  obtain ⟨bs, rb⟩ := hy.reads
  refine PySem.SeqAt.eqBoolOverData prog w A E s x y _ _ as bs C ra rb (lay_tup ns) (lay_tup ms) ?_ ?_
  · have := dep_ints ns
    have : (PyData.tuple (ns.map PyData.int)).depth ≤ 2 := by simp only [PyData.depth]; omega
    have := Nat.min_le_left (PyData.tuple (ns.map PyData.int)).depth (PyData.tuple (ms.map PyData.int)).depth
    omega
  · simp only [PyData.eqv]
    rw [eqv_ints]
    exact q
theorem lt_tupI {x y : Value} {ns ms : List Int} (hx : TupI s.heap x ns) (hy : TupI s.heap y ms) (hl : ns.length = ms.length) (hu : A.units + 64 < cLine) (q : C (HT.lexLt ns ms) s) : wpAny (model prog w) A (oneLt' false x y) C E s := by
  obtain ⟨a, its, n, dd, sl, rfl, o, i⟩ := hx
  obtain ⟨b, its2, n2, dd2, sl2, rfl, o2, i2⟩ := hy
  refine PySem.W.kat_one _ _ ?_
  exact richCompare_meets_room (op := .Lt) ⟨_, o, rfl⟩ ⟨_, o2, rfl⟩ PySem.F.slot_tuple_lt PySem.F.entry_tuple_lt (PySem.F.args_tuple_lt_2 _ _) (tupleLt a b its its2 n n2 dd dd2 sl sl2 ns ms hl i i2) ⟨o, o2, (fun z => nomatch z), q⟩ (by omega)
def ltP (a b : List Int × List Int) : Bool := if a.1 = b.1 then (if a.2 = b.2 then false else HT.lexLt a.2 b.2) else HT.lexLt a.1 b.1
theorem lt_tupP {x y : Value} {a b : List Int × List Int} (hx : TupP s.heap x a.1 a.2) (hy : TupP s.heap y b.1 b.2) (l1 : a.1.length = b.1.length) (l2 : a.2.length = b.2.length) (hu : A.units + 64 < cLine) (q : C (ltP a b) s) : wpAny (model prog w) A (keyLt' (tuples' false) x y) C E s := by
  obtain ⟨p, x1, x2, n, dd, sl, rfl, o, i1, i2⟩ := hx
  obtain ⟨p', y1, y2, n', dd', sl', rfl, o', j1, j2⟩ := hy
  unfold ltP at q
  refine PySem.W.kat_lt o rfl o' rfl (PySem.W.kat_cons (eq_tupI i1 j1 hu ?_))
  by_cases c : a.1 = b.1
  · rw [if_pos c] at q
    rw [decide_eq_true c]
    refine PySem.W.kat_yes (PySem.W.kat_cons (eq_tupI i2 j2 hu ?_))
    by_cases c2 : a.2 = b.2
    · rw [if_pos c2] at q
      rw [decide_eq_true c2]
      exact PySem.W.kat_yes (PySem.W.kat_nil q)
    · rw [if_neg c2] at q
      rw [decide_eq_false c2]
      exact PySem.W.kat_no (lt_tupI i2 j2 l2 hu q)
  · rw [if_neg c] at q
    rw [decide_eq_false c]
    exact PySem.W.kat_no (lt_tupI i1 j1 l1 hu q)
end
open PySem.W (KatTups) in
theorem ktups {h : Heap} : ∀ vs : List Value, (∀ v, v ∈ vs → ∃ a b, a ≠ [] ∧ TupP h v a b) → ∃ fs, fs.length = vs.length ∧ KatTups h vs fs ∧ ∀ f, f ∈ fs → ∃ ns, TupI h f ns
  | [], _ => ⟨[], rfl, .nil, fun f hf => by cases hf⟩
  | v :: vs, hv => by
    obtain ⟨fs, l, t, r⟩ := ktups vs fun u hu => hv u (List.mem_cons_of_mem _ hu)
    obtain ⟨a, b, ne, p, x, y, n, dd, sl, rfl, o, i, j⟩ := hv v (List.mem_cons_self ..)
    refine ⟨x :: fs, by simp [l], .cons o rfl rfl rfl t, fun f hf => ?_⟩
    rcases List.mem_cons.mp hf with rfl | hf
    · exact ⟨_, i⟩
    · exact r f hf
theorem kind_pairs {M : Model} {A : Around} {E : Value → Shared → Prop} {s : Shared} {vs : List Value} {Q : SortKind → Shared → Prop} (hn : 0 < vs.length) (hv : ∀ v, v ∈ vs → ∃ a b, a ≠ [] ∧ TupP s.heap v a b) (q : Q (tuples' false) s) : wpAny M A (keyKind' vs.toArray) Q E s := by
  obtain ⟨fs, l, t, r⟩ := ktups vs hv
  refine PySem.W.kat_kind (T := .type "tuple") t (by omega) (fun f hf => ?_) (by decide) ?_
  · obtain ⟨ns, a, its, n, dd, sl, rfl, o, _⟩ := r f hf
    exact (PySem.W.Looks.ld o).andThen .now
  · rw [show (Value.type "tuple" != Value.type "tuple") = false from by decide]
    exact q
theorem vals_at : ∀ {xs : List V} {us : List Value}, Vals xs us → ∀ i, i < xs.length → RelV (xs.getD i .non) (us.getD i Value.none)
  | _, _, .nil, i, h => by cases h
  | _, _, .cons r t, 0, _ => r
  | _, _, .cons r t, i + 1, h => vals_at t i (Nat.lt_of_succ_lt_succ h)
theorem vals_map {f : Nat → V} {g : Nat → Value} : ∀ l : List Nat, (∀ i, i ∈ l → RelV (f i) (g i)) → Vals (l.map f) (l.map g)
  | [], _ => .nil
  | i :: l, h => .cons (h i (List.mem_cons_self ..)) (vals_map l fun j hj => h j (List.mem_cons_of_mem _ hj))
theorem range_getV (vs : List V) : ((List.range vs.length).map fun i => vs.getD i .non) = vs := by
  refine List.ext_getElem (by simp) fun i h1 h2 => ?_
  have hi : i < vs.length := h2
  simp [hi]
def Fe (H : Hp) (v : V) : Prop := ∃ (p a b : Addr) (x1 y1 w1 x2 y2 w2 : Int), v = .ref p ∧ H p = some (.tup [.ref a, .ref b]) ∧ H a = some (.tup [.int x1, .int y1, .int w1]) ∧ H b = some (.tup [.int x2, .int y2, .int w2])
def rSortF : List V → Hp → VK → Prop := fun xs H Q => ∃ l vs, xs = [.ref l] ∧ H l = some (.lst vs) ∧ vs.length < 64 ∧ (∀ v, v ∈ vs → Fe H v) ∧ ∀ D ys, H D = none → ys.Perm vs → Q (.ref D) (upd H D (.lst ys))
section
variable {X : Cx} {pins : List (Addr × Obj)} {σ : St} {H : Hp} {s : Shared}
theorem tupI_of (I : Inv X pins σ H s) {a : Addr} {ns : List Int} (h : H a = some (.tup (ns.map V.int))) : TupI s.heap (.ref a) ns := by
  obtain ⟨its, r, ⟨⟨cls, dd, data, sl⟩, ho, hc, n, hd⟩, _⟩ := I.tuple (.of h)
  simp only at hc hd
  subst hc hd
  exact ⟨a, _, n, dd, sl, rfl, ho, intsAre_of r⟩
theorem tupP_of (I : Inv X pins σ H s) {v : V} {u : Value} (h : Fe H v) (r : RelV v u) : ∃ d : List Int × List Int, TupP s.heap u d.1 d.2 ∧ d.1.length = 3 ∧ d.2.length = 3 := by
  obtain ⟨p, a, b, x1, y1, w1, x2, y2, w2, rfl, hp, ha, hb⟩ := h
  cases r
  have ta := tupI_of I (ns := [x1, y1, w1]) ha
  have tb := tupI_of I (ns := [x2, y2, w2]) hb
  obtain ⟨its, r, ⟨⟨cls, dd, data, sl⟩, ho, hc, n, hd⟩, _⟩ := I.tuple (.of hp)
  simp only at hc hd
  subst hc hd
  obtain ⟨u1, u2, rfl, r1, r2⟩ := vals2 r
  cases r1
  cases r2
  exact ⟨([x1, y1, w1], [x2, y2, w2]), ⟨p, _, _, n, dd, sl, rfl, ho, ta, tb⟩, rfl, rfl⟩
theorem call_sortF (hu : X.A.units + 100 < cLine) : CallR X (.builtin "sorted") rSortF := by
  intro pins s σ H xs us Q I r h
  obtain ⟨l, vs, rfl, hl, h64, hf, q⟩ := h
  obtain ⟨u, rfl, ru⟩ := vals1 r
  cases ru
  obtain ⟨its, rv, pl, hz⟩ := I.list (.of hl)
  have len : vs.length = its.length := rv.length
  have each : ∀ i, ∃ d : List Int × List Int, i < its.length → TupP s.heap (its.getD i Value.none) d.1 d.2 ∧ d.1.length = 3 ∧ d.2.length = 3 := fun i => by
    by_cases hi : i < its.length
    · have hv : vs.getD i .non ∈ vs := by
        have e : vs.getD i .non = vs[i]'(by omega) := by simp [show i < vs.length by omega]
        rw [e]
        exact List.getElem_mem _
      obtain ⟨d, hd⟩ := tupP_of I (hf _ hv) (vals_at rv i (by omega))
      exact ⟨d, fun _ => hd⟩
    · exact ⟨([], []), fun z => absurd z hi⟩
  let d := fun i => Classical.choose (each i)
  have hd : ∀ i, i < its.length → TupP s.heap (its.getD i Value.none) (d i).1 (d i).2 ∧ (d i).1.length = 3 ∧ (d i).2.length = 3 := fun i => Classical.choose_spec (each i)
  refine sorted_at (κ := tuples' false) (ans := fun i j => ltP (d i) (d j)) pl.isList (by omega) (fun h2 h' k Q' q' => ?_) (fun h2 h' k i j C hi hj c => ?_) fun p h' c k or _ ho => ?_
  · refine kind_pairs (by omega) (fun v hv => ?_) q'
    obtain ⟨i, hi, e⟩ := List.mem_iff_getElem.mp hv
    have t := hd i hi
    have e' : its.getD i Value.none = v := by simp [hi, e]
    rw [e'] at t
    exact ⟨_, _, fun z => by rw [z] at t; exact absurd t.2.1 (by decide), t.1.keeps k⟩
  · exact lt_tupP ((hd i hi).1.keeps k) ((hd j hj).1.keeps k) ((hd i hi).2.1.trans (hd j hj).2.1.symm) ((hd i hi).2.2.trans (hd j hj).2.2.symm) (by show X.A.units + 1 + 1 + 64 < _; omega) c
  · have lo : p.toList.length = its.length := by rw [or.length_eq, List.length_range]
    have hy : (p.toList.map fun i => vs.getD i .non).Perm vs := by
      have := or.map fun i => vs.getD i V.non
      rw [← len, range_getV] at this
      exact this
    refine ⟨.ref _, upd H (s.heap.objs.size + 1) (.lst (p.toList.map fun i => vs.getD i .non)), I.laid (t' := s.toks) k (Nat.le_succ _) ⟨?_, _, c, vals_map _ (fun i hi => vals_at rv i ?_), ho⟩, rfl, q _ _ (I.hok.fresh (Nat.le_succ _)) hy⟩
    · rw [List.length_map, lo]
      exact Nat.le_trans (Nat.le_of_lt (by omega : its.length < 64)) (by decide)
    · have := List.mem_range.mp (or.mem_iff.mp hi)
      omega
theorem bt_sorted : bootBuiltins "sorted" = some (.builtin "sorted") := by decide +kernel
theorem hu100 {A : Around} {k : Nat} (hr : Room k A) : A.units + 100 < cLine := by have := hr.un; omega
end
end L2
set_option Elab.async false
set_option linter.all false
set_option maxRecDepth 100000
set_option maxHeartbeats 4000000
namespace L2
open PySem PySem.Spec PyProof.Rows
def It2 (lo : Int) (n : Nat) : It := ⟨fun i _ => i < n, fun i H x H' => H' = H ∧ x = .int (lo + i * 2), fun i _ => n ≤ i⟩
theorem turn_step {P : Program} {w : World} {K : PySem.W.Frag} {tg : Expr} (c0 : Addr) (lo : Int) (n : Nat) : Turn P w K tg (It2 lo n) [c0] c0 (fun i h => IsRangeIter h c0 (lo + (i : Nat) * 2) ((n : Int) - (i : Nat)) 2) where
  mem := by simp
  obj := fun i h st b hb => by
    have e : b = c0 := by simpa using hb
    subst e
    exact ⟨_, st, fun v z => by
      have y : Data.fields _ = Data.cell v := z
      cases y⟩
  keep := fun i h h' st k => k c0 (by simp) _ st
  item := by
    intro X hP hw hK hc i pins s σ H E I hf st hg
    subst hP hw hK
    obtain ⟨f0, f1, f2, f3, f4, f5⟩ := hf c0 (by simp)
    refine (Walks.range (prog := X.prog) (w := X.w) (I.ok.hd hc) c0 lo 2 n).item i s _ _ hg st fun v h' tk hv st' kk => ?_
    obtain ⟨t, rfl⟩ := hv
    have I2 : Inv X pins σ H { s with heap := h', toks := tk } := I.turned (fun b o hb e => kk b o (by simpa using hb) e) f0 f1 f3 f4 f5
    exact ⟨_, rfl, go_of (s := { s with heap := h', toks := tk }) (n := "range_iterator") st' rfl rfl (by decide) ⟨.int (lo + i * 2), H, I2, ⟨t, rfl⟩, ⟨rfl, rfl⟩, st', fun b hb => (hf b hb).1⟩⟩
  done := by
    intro X hP hw hK hc i pins s σ H E I hf st hg
    subst hP hw hK
    obtain ⟨f0, f1, f2, f3, f4, f5⟩ := hf c0 (by simp)
    have hg : n ≤ i := hg
    exact wpAny_pyNext_range_end (I.ok.hd hc) st (by omega) fun h' eb => ⟨rfl, I.turned (t' := s.toks) (fun b o hb e => eb b o hb e) f0 f1 f3 f4 f5⟩
  self := fun _ _ _ _ _ st h => wpAny_pyIter_rangeiter st h
section
variable {X : Cx} {tg : Expr}
def iRng3 (ta : TA) : TI := fun σ H R => ta σ H fun vs H1 => ∃ i j : Int, vs = [.int i, .int j, .int 2] ∧ (-(2 ^ 60) ≤ i ∧ i < 2 ^ 60 ∧ -(2 ^ 60) ≤ j ∧ j < 2 ^ 60) ∧ R (It2 i ((j - i + 1) / 2).toNat) H1
theorem size_step (i j : Int) : Builtin.Range.rangeSize i j 2 = (((j - i + 1) / 2).toNat : Int) := by
  unfold Builtin.Range.rangeSize
  split
  · split <;> omega
  · split <;> omega
theorem pi_range3 {a b c : Expr} {ta : TA} {p pos : Pos} (hg : Gl X "range") (hm : X.mg "range" = none) (ha : PA X [a, b, c] ta) (hs : starEach [a, b, c] X.env = (false, eval a X.env) :: starEach [b, c] X.env := by rfl) (hs2 : (backTo pos (starEach [b, c] X.env)).any (·.1) = false := by rfl) :
    PI X tg (.Call (.Name "range" p) [a, b, c] [] pos) (iRng3 ta) := by
  intro pins s σ H R I h
  refine Call_ (ld_blt I hg hm boot_range (PyProof.Rows.callWith_type1 (thn (ha pos pins s σ H _ I h) fun us s1 ⟨vs, H1, I1, r1, q1⟩ => ?_) hs hs2))
  obtain ⟨i, j, e, ⟨b1, b2, b3, b4⟩, q⟩ := q1
  subst e
  obtain ⟨u1, u2, u3, rfl, ⟨t1, rfl⟩, ⟨t2, rfl⟩, ⟨t3, rfl⟩⟩ : ∃ u1 u2 u3, us = [u1, u2, u3] ∧ RelV (.int i) u1 ∧ RelV (.int j) u2 ∧ RelV (.int 2) u3 := by
    cases r1 with
    | cons x1 y =>
      cases y with
      | cons x2 y =>
        cases y with
        | cons x3 y => cases y; exact ⟨_, _, _, rfl, x1, x2, x3⟩
  refine call_range_3 (by decide) ?_ (.inl (PyProof.noPylong_of_log2 (by decide +kernel)))
  refine wpAny_pyIter_range (IsRange.new ..) ?_ ?_
  · unfold Builtin.Range.small
    rw [size_step]
    simp only [Builtin.Range.rangeFitsLong, Bool.and_eq_true, Bool.or_eq_true, decide_eq_true_eq, beq_iff_eq, (by decide : (2 : Int) > 0), if_true]
    omega
  · have I2 : Inv X pins σ H1 { s1 with heap := s1.heap.push { cls := .type "range", data := .fields #[.int i t1, .int j t2, .int 2 t3] }, toks := s1.toks } := I1.kept fun b o e => Heap.get?_push_of_some _ e
    refine ⟨_, [_], _, _, H1, rfl, I2.kept (t' := s1.toks) fun b o e => Heap.get?_push_of_some _ e, turn_step _ i ((j - i + 1) / 2).toNat, ?_, fun b hb => ?_, q⟩
    · have e1 : i + ((0 : Nat) : Int) * 2 = i := by simp
      have e2 : ((((j - i + 1) / 2).toNat : Nat) : Int) - ((0 : Nat) : Int) = Builtin.Range.rangeSize i j 2 := by rw [size_step]; simp
      show IsRangeIter _ _ (i + ((0 : Nat) : Int) * 2) (((((j - i + 1) / 2).toNat : Nat) : Int) - ((0 : Nat) : Int)) 2
      rw [e1, e2]
      exact Heap.get?_push_size _ rfl
    · have e := List.mem_singleton.mp hb
      subst e
      exact I2.fpOk (Nat.le_refl _) (I2.hok.fresh (Nat.le_refl _))
end
theorem comp_step {D : Addr} {lo : Int} {n : Nat} {g : TG} {ti : TT} {te : TE} {σ' : St} {H : Hp} {Q : VK} (Pv : Nat → List V → Hp → Prop) (h0 : Pv 0 [] (upd H D (.lst [])))
    (hs : ∀ i ys H, i < n → Pv i ys H → g (.int (lo + i * 2)) σ' H fun σ4 H4 => ti σ4 H4 fun b H5 => if b = true then te σ4 H5 fun y H6 => CPut n Pv D i y H6 else CSkip n Pv i H5)
    (hd : ∀ ys H, Pv n ys H → Q (.ref D) H) : CompW (It2 lo n) D g ti te σ' H Q := by
  refine comp_by n Pv h0 (fun i ys H hi p => hi) (fun ys H p => Nat.le_refl _) (fun i ys H x H3 hi p y => ?_) hd
  obtain ⟨rfl, rfl⟩ := y
  exact hs i ys _ hi p
end L2
set_option Elab.async false
set_option linter.all false
set_option maxRecDepth 100000
set_option maxHeartbeats 4000000
namespace My
def G (a b : Int) : Int := (Int.gcd a b : Nat)
theorem G_nonneg (a b : Int) : 0 ≤ G a b := Int.natCast_nonneg _
theorem G_dvd_left (a b : Int) : G a b ∣ a := Int.gcd_dvd_left a b
theorem G_dvd_right (a b : Int) : G a b ∣ b := Int.gcd_dvd_right a b
theorem G_abs (a b : Int) : G (if a < 0 then -a else a) (if b < 0 then -b else b) = G a b := by
  unfold G
  split <;> split <;> simp [Int.gcd_neg, Int.neg_gcd]
theorem G_zero {a b : Int} (h : 0 ≤ a) (hb : b = 0) : a = G a b := by
  subst hb
  unfold G
  rw [Int.gcd_zero_right]
  omega
theorem G_mod (a b : Int) (hb : 0 < b) : G b (Int.fmod a b) = G a b := by
  unfold G
  rw [Int.fmod_eq_emod_of_nonneg a (Int.le_of_lt hb), Int.gcd_comm a b]
  have e : a % b + a / b * b = a := by rw [Int.mul_comm]; exact Int.emod_add_mul_ediv a b
  rw [← Int.gcd_add_mul_right_right b (a % b) (a / b), e]
theorem turn {c a b : Int} (h : G a b = c) (hb : 0 < b) : 0 ≤ b ∧ 0 ≤ Int.fmod a b ∧ G b (Int.fmod a b) = c :=
  ⟨Int.le_of_lt hb, Int.fmod_nonneg_of_pos a hb, by rw [G_mod a b hb, h]⟩
theorem less {a b : Int} (hb : 0 < b) : (Int.fmod a b).toNat < b.toNat := by
  have h0 := Int.fmod_nonneg_of_pos a hb
  have h1 := Int.fmod_lt_of_pos a hb
  omega
theorem G_eq_zero {a b : Int} (h : G a b = 0) : a = 0 ∧ b = 0 := by
  unfold G at h
  have : Int.gcd a b = 0 := by omega
  exact Int.gcd_eq_zero_iff.mp this
end My
namespace My
def fac (t b : Int) : Int := if b < 0 then -G t b else G t b
def frT (t b : Int) : Int := t.fdiv (fac t b)
def frB (t b : Int) : Int := b.fdiv (fac t b)
theorem G_pos {t b : Int} (h : b ≠ 0) : 0 < G t b := by
  have h0 := G_nonneg t b
  rcases Int.lt_or_eq_of_le h0 with h1 | h1
  · exact h1
  · exact absurd (G_eq_zero h1.symm).2 h
theorem fac_ne {t b : Int} (h : b ≠ 0) : fac t b ≠ 0 := by
  have := G_pos (t := t) h
  unfold fac; split <;> omega
theorem fac_dvd_left (t b : Int) : fac t b ∣ t := by
  unfold fac; split
  · exact Int.neg_dvd.mpr (G_dvd_left t b)
  · exact G_dvd_left t b
theorem fac_dvd_right (t b : Int) : fac t b ∣ b := by
  unfold fac; split
  · exact Int.neg_dvd.mpr (G_dvd_right t b)
  · exact G_dvd_right t b
theorem fdiv_of_dvd {a b : Int} (h : b ∣ a) : a.fdiv b * b = a := by
  have e := Int.fmod_add_mul_fdiv a b
  have z : a.fmod b = 0 := Int.fmod_eq_zero_of_dvd h
  rw [z] at e
  rw [Int.mul_comm]
  omega
theorem frT_mul (t b : Int) : frT t b * fac t b = t := fdiv_of_dvd (fac_dvd_left t b)
theorem frB_mul (t b : Int) : frB t b * fac t b = b := fdiv_of_dvd (fac_dvd_right t b)
theorem natAbs_le_of_mul {x f y : Int} (e : x * f = y) (hf : f ≠ 0) : x.natAbs ≤ y.natAbs := by
  rw [← e, Int.natAbs_mul]
  exact Nat.le_mul_of_pos_right _ (by omega)
theorem fac_le {t b : Int} (h : b ≠ 0) : (fac t b).natAbs ≤ b.natAbs := by
  have e := frB_mul t b
  have hz : frB t b ≠ 0 := by intro z; rw [z] at e; omega
  rw [Int.mul_comm] at e
  exact natAbs_le_of_mul e hz
theorem pos_of_mul {x f y : Int} (e : x * f = y) (h : (0 < f ∧ 0 < y) ∨ (f < 0 ∧ y < 0)) : 0 < x := by
  rcases (by omega : 0 < x ∨ x = 0 ∨ x < 0) with hx | hx | hx
  · exact hx
  · rw [hx, Int.zero_mul] at e; omega
  · exfalso
    rcases h with ⟨h1, h2⟩ | ⟨h1, h2⟩
    · have := Int.mul_neg_of_neg_of_pos hx h1; omega
    · have := Int.mul_pos_of_neg_of_neg hx h1; omega
theorem frB_pos {t b : Int} (h : b ≠ 0) : 0 < frB t b := by
  refine pos_of_mul (frB_mul t b) ?_
  have := G_pos (t := t) h
  unfold fac
  split
  · exact .inr ⟨by omega, by omega⟩
  · exact .inl ⟨by omega, by omega⟩
theorem cross (t b : Int) (_h : b ≠ 0) : frT t b * b = t * frB t b := by
  have e1 := frT_mul t b
  have e2 := frB_mul t b
  calc frT t b * b = frT t b * (frB t b * fac t b) := by rw [e2]
    _ = (frT t b * fac t b) * frB t b := by rw [Int.mul_comm (frB t b), Int.mul_assoc]
    _ = t * frB t b := by rw [e1]
theorem gcd_of_mul {x y f t b : Int} (e1 : x * f = t) (e2 : y * f = b) (hb : b ≠ 0) (hf : f.natAbs = Int.gcd t b) : Int.gcd x y = 1 := by
  have hp : 0 < Int.gcd t b := by
    have h : Int.gcd t b ≠ 0 := by intro z; exact hb (Int.gcd_eq_zero_iff.mp z).2
    omega
  have e : Int.gcd (x * f) (y * f) = Int.gcd x y * f.natAbs := Int.gcd_mul_right x f y
  rw [e1, e2, hf] at e
  have e' : 1 * Int.gcd t b = Int.gcd x y * Int.gcd t b := by omega
  exact (Nat.eq_of_mul_eq_mul_right hp e').symm
theorem fac_abs (t b : Int) : (fac t b).natAbs = Int.gcd t b := by
  unfold fac G; split <;> simp
theorem G_fr {t b : Int} (h : b ≠ 0) : G (frT t b) (frB t b) = 1 := by
  unfold G
  rw [gcd_of_mul (frT_mul t b) (frB_mul t b) h (fac_abs t b)]
  rfl
structure Low (n : Nat) (a b : Int) : Prop where
  pos : 0 < b
  one : G a b = 1
  la : a.natAbs < 2 ^ n
  lb : b.natAbs < 2 ^ n
theorem Low.ne {n : Nat} {a b : Int} (h : Low n a b) : b ≠ 0 := by have := h.pos; omega
theorem mul_lt {a b : Int} {m n : Nat} (h1 : a.natAbs < 2 ^ m) (h2 : b.natAbs < 2 ^ n) : (a * b).natAbs < 2 ^ (m + n) := by
  rw [Int.natAbs_mul, Nat.pow_add]
  exact Nat.mul_lt_mul'' h1 h2
theorem sub_lt {a b : Int} {m : Nat} (h1 : a.natAbs < 2 ^ m) (h2 : b.natAbs < 2 ^ m) : (a - b).natAbs < 2 ^ (m + 1) := by
  rw [Nat.pow_succ]; omega
theorem lt_mono {a : Int} {m n : Nat} (h : a.natAbs < 2 ^ m) (hm : m ≤ n) : a.natAbs < 2 ^ n := Nat.lt_of_lt_of_le h (Nat.pow_le_pow_right (by decide) hm)
end My
namespace My
end My
namespace My
end My
namespace My
def g3 (a b c : Int) : Nat := Nat.gcd (Nat.gcd a.natAbs b.natAbs) c.natAbs
structure Pt (n : Nat) (x y w : Int) : Prop where
  pos : 0 < w
  one : g3 x y w = 1
  lx : x.natAbs < 2 ^ n
  ly : y.natAbs < 2 ^ n
  lw : w.natAbs < 2 ^ n
theorem Pt.ne {n : Nat} {x y w : Int} (h : Pt n x y w) : w ≠ 0 := by have := h.pos; omega
theorem Pt.mono {m n : Nat} {x y w : Int} (h : Pt m x y w) (hm : m ≤ n) : Pt n x y w := ⟨h.pos, h.one, lt_mono h.lx hm, lt_mono h.ly hm, lt_mono h.lw hm⟩
end My
namespace My
end My
namespace My
end My
namespace My
def sgn (z : Int) : Int := if 0 < z then 1 else if z < 0 then -1 else 0
theorem sgn_pos {z : Int} (h : 0 < z) : sgn z = 1 := if_pos h
theorem sgn_neg {z : Int} (h : z < 0) : sgn z = -1 := by unfold sgn; rw [if_neg (by omega), if_pos h]
theorem sgn_cases (z : Int) : (0 < z ∧ sgn z = 1) ∨ (z < 0 ∧ sgn z = -1) ∨ (z = 0 ∧ sgn z = 0) := by
  rcases (by omega : 0 < z ∨ z < 0 ∨ z = 0) with h | h | h
  · exact .inl ⟨h, sgn_pos h⟩
  · exact .inr (.inl ⟨h, sgn_neg h⟩)
  · exact .inr (.inr ⟨h, by rw [h]; rfl⟩)
theorem sgn_eq_zero {z : Int} : sgn z = 0 ↔ z = 0 := by
  rcases sgn_cases z with ⟨h, e⟩ | ⟨h, e⟩ | ⟨h, e⟩ <;> rw [e] <;> omega
theorem sgn_mul {k z : Int} (hk : 0 < k) : sgn (k * z) = sgn z := by
  rcases sgn_cases z with ⟨h, e⟩ | ⟨h, e⟩ | ⟨h, e⟩
  · rw [e, sgn_pos (Int.mul_pos hk h)]
  · rw [e, sgn_neg (Int.mul_neg_of_pos_of_neg hk h)]
  · rw [h, Int.mul_zero]
def bef (x1 y1 w1 x2 y2 w2 : Int) : Bool := if x1 * w2 = x2 * w1 then decide (y1 * w2 < y2 * w1) else decide (x1 * w2 < x2 * w1)
theorem bef_true {x1 y1 w1 x2 y2 w2 : Int} : bef x1 y1 w1 x2 y2 w2 = true ↔ (x1 * w2 < x2 * w1 ∨ (x1 * w2 = x2 * w1 ∧ y1 * w2 < y2 * w1)) := by
  unfold bef
  split
  · rename_i h
    rw [decide_eq_true_iff]
    omega
  · rename_i h
    rw [decide_eq_true_iff]
    omega
def lnA (x1 y1 w1 x2 y2 w2 : Int) : Int := y1 * w2 - w1 * y2
def lnB (x1 y1 w1 x2 y2 w2 : Int) : Int := w1 * x2 - x1 * w2
def lnC (x1 y1 w1 x2 y2 w2 : Int) : Int := x1 * y2 - y1 * x2
def det3 (x1 y1 w1 x2 y2 w2 x3 y3 w3 : Int) : Int := lnA x1 y1 w1 x2 y2 w2 * x3 + lnB x1 y1 w1 x2 y2 w2 * y3 + lnC x1 y1 w1 x2 y2 w2 * w3
end My
namespace My
end My
namespace My
structure S6 where
  x1 : Int
  y1 : Int
  w1 : Int
  x2 : Int
  y2 : Int
  w2 : Int
def spansB (d : S6) (x w : Int) : Bool := if x * d.w1 < d.x1 * w then false else decide (x * d.w2 < d.x2 * w)
def abv (x y w : Int) (d : S6) : Bool := spansB d x w && decide (det3 d.x1 d.y1 d.w1 d.x2 d.y2 d.w2 x y w < 0)
def cntAb (ds : List S6) (x y w : Int) : Nat := (ds.filter (abv x y w)).length
theorem cnt_take {ds : List S6} {i : Nat} {d : S6} (x y w : Int) (h : ds[i]? = some d) : cntAb (ds.take (i + 1)) x y w = cntAb (ds.take i) x y w + if abv x y w d = true then 1 else 0 := by
  unfold cntAb
  rw [List.take_add_one, h, List.filter_append, List.length_append]
  cases e : abv x y w d <;> simp [e]
theorem sgn_lt {l : Int} : sgn l < 0 ↔ l < 0 := by
  rcases sgn_cases l with ⟨h, e⟩ | ⟨h, e⟩ | ⟨h, e⟩ <;> rw [e] <;> omega
end My
namespace My
theorem abv_iff {x y w : Int} {d : S6} : abv x y w d = true ↔ (¬ x * d.w1 < d.x1 * w ∧ x * d.w2 < d.x2 * w ∧ det3 d.x1 d.y1 d.w1 d.x2 d.y2 d.w2 x y w < 0) := by
  unfold abv spansB
  by_cases h : x * d.w1 < d.x1 * w
  · rw [if_pos h]
    simp [h]
  · rw [if_neg h]
    simp [h]
end My
namespace My
def onB (x1 y1 w1 x2 y2 w2 x3 y3 w3 : Int) : Bool := if sgn (det3 x1 y1 w1 x2 y2 w2 x3 y3 w3) = 0 then (!bef x3 y3 w3 x1 y1 w1 && !bef x2 y2 w2 x3 y3 w3) else false
end My
namespace My
def b2 (b : Bool) : Int := if b = true then 1 else 0
structure W4 where
  x0 : Int
  y0 : Int
  x1 : Int
  y1 : Int
deriving DecidableEq
def eH (I : Int → Int → Bool) (x y : Int) : Int := b2 (I x y) - b2 (I x (y - 1))
def eV (I : Int → Int → Bool) (x y : Int) : Int := b2 (I (x - 1) y) - b2 (I x y)
def smB (I : Int → Int → Bool) (x y : Int) : Bool := if eH I (x - 1) y = 0 ∧ eH I x y = 0 then decide (eV I x (y - 1) ≠ 0 ∧ eV I x (y - 1) = eV I x y) else decide ((eV I x (y - 1) = 0 ∧ eV I x y = 0) ∧ eH I (x - 1) y = eH I x y)
def lvB (I : Int → Int → Bool) (x y dx dy : Int) : Bool := if dy = 0 then decide (eH I (x + (if 0 < dx then 0 else dx)) y = dx) else decide (eV I x (y + (if 0 < dy then 0 else dy)) = dy)
def farN (I : Int → Int → Bool) (x y dx dy : Int) : Nat → Nat → Nat
  | 0, f => f
  | n + 1, f => if smB I (x + f * dx) (y + f * dy) = true then farN I x y dx dy n (f + 1) else f
def wayL (I : Int → Int → Bool) (w : W4) : List W4 := if smB I w.x0 w.y0 = false ∧ lvB I w.x0 w.y0 w.x1 w.y1 = true then [⟨w.x0, w.y0, w.x0 + farN I w.x0 w.y0 w.x1 w.y1 6 1 * w.x1, w.y0 + farN I w.x0 w.y0 w.x1 w.y1 6 1 * w.y1⟩] else []
def dirs : List (Int × Int) := [(1, 0), (0, 1), (-1, 0), (0, -1)]
def idxK (k : Nat) : List W4 := (List.range k).flatMap fun (j : Nat) => dirs.map fun d => ⟨(j : Int) % 5, (j : Int) / 5, d.1, d.2⟩
def waysOf (I : Int → Int → Bool) : List W4 := (idxK 25).flatMap (wayL I)
def stepsN (x y dx dy : Int) : Nat → List W4
  | 0 => []
  | n + 1 => ⟨x, y, x + dx, y + dy⟩ :: stepsN (x + dx) (y + dy) dx dy n
def s1 (l0 l1 r0 r1 : Bool) : Bool := (l0 == r0 && l1 == r1 && r0 != r1) || (r0 == r1 && l0 == l1 && l0 != r0)
def sm1 (L R : Int → Bool) (t : Int) : Bool := s1 (L (t - 1)) (L t) (R (t - 1)) (R t)
def e1 (L R : Int → Bool) (t : Int) : Int := b2 (L t) - b2 (R t)
def far1 (L R : Int → Bool) (t d : Int) : Nat → Nat → Nat
  | 0, f => f
  | n + 1, f => if sm1 L R (t + f * d) = true then far1 L R t d n (f + 1) else f
def lv1 (L R : Int → Bool) (t d : Int) : Bool := decide (e1 L R (t + (if 0 < d then 0 else d)) = d)
def steps1 (t d : Int) : Nat → List (Int × Int)
  | 0 => []
  | n + 1 => (t, t + d) :: steps1 (t + d) d n
def exp1 (L R : Int → Bool) (p : Int × Int) : List (Int × Int) := if sm1 L R p.1 = false ∧ lv1 L R p.1 p.2 = true then steps1 p.1 p.2 (far1 L R p.1 p.2 6 1) else []
def idx1 : List (Int × Int) := [(0, 1), (0, -1), (1, 1), (1, -1), (2, 1), (2, -1), (3, 1), (3, -1), (4, 1), (4, -1)]
def lineE (L R : Int → Bool) : List (Int × Int) := idx1.flatMap (exp1 L R)
def unit1 (L R : Int → Bool) (t : Int) : List (Int × Int) := if e1 L R t = 1 then [(t, t + 1)] else if e1 L R t = -1 then [(t + 1, t)] else []
def lineU (L R : Int → Bool) : List (Int × Int) := [0, 1, 2, 3].flatMap (unit1 L R)
def mk4 (a b c d : Bool) (t : Int) : Bool := if t = 0 then a else if t = 1 then b else if t = 2 then c else if t = 3 then d else false
theorem line_all : ∀ a b c d a' b' c' d' : Bool, (lineE (mk4 a b c d) (mk4 a' b' c' d')).isPerm (lineU (mk4 a b c d) (mk4 a' b' c' d')) = true := by decide +kernel
theorem mk4_of {L : Int → Bool} (h : ∀ t, L t = true → 0 ≤ t ∧ t < 4) : L = mk4 (L 0) (L 1) (L 2) (L 3) := by
  funext t
  unfold mk4
  by_cases h0 : t = 0
  · rw [if_pos h0, h0]
  · rw [if_neg h0]
    by_cases h1 : t = 1
    · rw [if_pos h1, h1]
    · rw [if_neg h1]
      by_cases h2 : t = 2
      · rw [if_pos h2, h2]
      · rw [if_neg h2]
        by_cases h3 : t = 3
        · rw [if_pos h3, h3]
        · rw [if_neg h3]
          cases e : L t with
          | false => rfl
          | true => have := h t e; omega
theorem line_perm {L R : Int → Bool} (hL : ∀ t, L t = true → 0 ≤ t ∧ t < 4) (hR : ∀ t, R t = true → 0 ≤ t ∧ t < 4) : (lineE L R).Perm (lineU L R) := by
  rw [mk4_of hL, mk4_of hR]
  exact List.isPerm_iff.mp (line_all _ _ _ _ _ _ _ _)
theorem sm_h (I : Int → Int → Bool) (x y : Int) : smB I x y = sm1 (fun t => I t y) (fun t => I t (y - 1)) x := by
  unfold smB sm1 eH eV
  dsimp only
  generalize I (x - 1) (y - 1) = a, I x (y - 1) = b, I (x - 1) y = c, I x y = d
  revert a b c d
  decide
theorem sm_v (I : Int → Int → Bool) (x y : Int) : smB I x y = sm1 (fun t => I (x - 1) t) (fun t => I x t) y := by
  unfold smB sm1 eH eV
  dsimp only
  generalize I (x - 1) (y - 1) = a, I x (y - 1) = b, I (x - 1) y = c, I x y = d
  revert a b c d
  decide
theorem far_h (I : Int → Int → Bool) (x y d : Int) : ∀ n f, farN I x y d 0 n f = far1 (fun t => I t y) (fun t => I t (y - 1)) x d n f
  | 0, f => rfl
  | n + 1, f => by
    unfold farN far1
    rw [Int.mul_zero, Int.add_zero, sm_h, far_h I x y d n (f + 1)]
theorem far_v (I : Int → Int → Bool) (x y d : Int) : ∀ n f, farN I x y 0 d n f = far1 (fun t => I (x - 1) t) (fun t => I x t) y d n f
  | 0, f => rfl
  | n + 1, f => by
    unfold farN far1
    rw [Int.mul_zero, Int.add_zero, sm_v, far_v I x y d n (f + 1)]
def embH (y : Int) (p : Int × Int) : W4 := ⟨p.1, y, p.2, y⟩
def embV (x : Int) (p : Int × Int) : W4 := ⟨x, p.1, x, p.2⟩
theorem steps_h (y d : Int) : ∀ (n : Nat) (x : Int), stepsN x y d 0 n = (steps1 x d n).map (embH y)
  | 0, x => rfl
  | n + 1, x => by
    unfold stepsN steps1
    rw [Int.add_zero, steps_h y d n, List.map_cons]
    rfl
theorem steps_v (x d : Int) : ∀ (n : Nat) (y : Int), stepsN x y 0 d n = (steps1 y d n).map (embV x)
  | 0, y => rfl
  | n + 1, y => by
    unfold stepsN steps1
    rw [Int.add_zero, steps_v x d n, List.map_cons]
    rfl
def expL (I : Int → Int → Bool) (w : W4) : List W4 := if smB I w.x0 w.y0 = false ∧ lvB I w.x0 w.y0 w.x1 w.y1 = true then stepsN w.x0 w.y0 w.x1 w.y1 (farN I w.x0 w.y0 w.x1 w.y1 6 1) else []
theorem exp_h (I : Int → Int → Bool) (y : Int) (p : Int × Int) : expL I ⟨p.1, y, p.2, 0⟩ = (exp1 (fun t => I t y) (fun t => I t (y - 1)) p).map (embH y) := by
  unfold expL exp1
  simp only
  rw [sm_h, far_h, steps_h]
  have e : lvB I p.1 y p.2 0 = lv1 (fun t => I t y) (fun t => I t (y - 1)) p.1 p.2 := by
    unfold lvB lv1
    rw [if_pos rfl]
    rfl
  rw [e]
  split
  · rfl
  · rfl
theorem exp_v (I : Int → Int → Bool) (x : Int) (p : Int × Int) (h : p.2 ≠ 0) : expL I ⟨x, p.1, 0, p.2⟩ = (exp1 (fun t => I (x - 1) t) (fun t => I x t) p).map (embV x) := by
  unfold expL exp1
  simp only
  rw [sm_v, far_v, steps_v]
  have e : lvB I x p.1 0 p.2 = lv1 (fun t => I (x - 1) t) (fun t => I x t) p.1 p.2 := by
    unfold lvB lv1
    rw [if_neg h]
    rfl
  rw [e]
  split
  · rfl
  · rfl
def fives : List Int := [0, 1, 2, 3, 4]
def idxL : List W4 := (fives.flatMap fun y => idx1.map fun p => ⟨p.1, y, p.2, 0⟩) ++ fives.flatMap fun x => idx1.map fun p => ⟨x, p.1, 0, p.2⟩
theorem idx_perm : (idxK 25).Perm idxL := List.isPerm_iff.mp (by decide +kernel)
theorem perm_flat {α β : Type} {f g : α → List β} : ∀ (l : List α), (∀ a, a ∈ l → (f a).Perm (g a)) → (l.flatMap f).Perm (l.flatMap g)
  | [], _ => .refl _
  | a :: l, h => by
    rw [List.flatMap_cons, List.flatMap_cons]
    exact (h a (List.mem_cons_self ..)).append (perm_flat l fun b hb => h b (List.mem_cons_of_mem _ hb))
theorem flat_congr {α β : Type} {f g : α → List β} : ∀ (l : List α), (∀ a, a ∈ l → f a = g a) → l.flatMap f = l.flatMap g
  | [], _ => rfl
  | a :: l, h => by
    rw [List.flatMap_cons, List.flatMap_cons, h a (List.mem_cons_self ..), flat_congr l fun b hb => h b (List.mem_cons_of_mem _ hb)]
def unitsOf (I : Int → Int → Bool) : List W4 := (fives.flatMap fun y => (lineU (fun t => I t y) (fun t => I t (y - 1))).map (embH y)) ++ fives.flatMap fun x => (lineU (fun t => I (x - 1) t) (fun t => I x t)).map (embV x)
theorem units_perm {I : Int → Int → Bool} (h : ∀ x y, I x y = true → (0 ≤ x ∧ x < 4) ∧ (0 ≤ y ∧ y < 4)) : ((idxK 25).flatMap (expL I)).Perm (unitsOf I) := by
  refine (idx_perm.flatMap_right _).trans ?_
  unfold idxL unitsOf
  rw [List.flatMap_append]
  refine List.Perm.append ?_ ?_
  · rw [List.flatMap_assoc]
    refine perm_flat _ fun y _ => ?_
    rw [List.flatMap_map]
    have e : (idx1.flatMap fun p => expL I ⟨p.1, y, p.2, 0⟩) = (lineE (fun t => I t y) (fun t => I t (y - 1))).map (embH y) := by
      unfold lineE
      rw [List.map_flatMap]
      congr 1
      funext p
      exact exp_h I y p
    rw [e]
    exact (line_perm (fun t ht => (h t y ht).1) (fun t ht => (h t (y - 1) ht).1)).map _
  · rw [List.flatMap_assoc]
    refine perm_flat _ fun x _ => ?_
    rw [List.flatMap_map]
    have e : (idx1.flatMap fun p => expL I ⟨x, p.1, 0, p.2⟩) = (lineE (fun t => I (x - 1) t) (fun t => I x t)).map (embV x) := by
      unfold lineE
      rw [List.map_flatMap]
      refine flat_congr _ fun p hp => ?_
      exact exp_v I x p (by
        unfold idx1 at hp
        simp only [List.mem_cons, List.not_mem_nil, or_false] at hp
        rcases hp with rfl | rfl | rfl | rfl | rfl | rfl | rfl | rfl | rfl | rfl <;> decide)
    rw [e]
    exact (line_perm (fun t ht => (h (x - 1) t ht).2) (fun t ht => (h x t ht).2)).map _
def sumI {α : Type} (f : α → Int) : List α → Int
  | [] => 0
  | a :: l => f a + sumI f l
theorem sumI_app {α : Type} (f : α → Int) : ∀ l r : List α, sumI f (l ++ r) = sumI f l + sumI f r
  | [], r => by simp [sumI]
  | a :: l, r => by rw [List.cons_append, sumI, sumI, sumI_app f l r]; omega
theorem sumI_perm {α : Type} (f : α → Int) {l r : List α} (h : l.Perm r) : sumI f l = sumI f r := by
  induction h with
  | nil => rfl
  | cons a _ ih => rw [sumI, sumI, ih]
  | swap a b l => simp only [sumI]; omega
  | trans _ _ i1 i2 => exact i1.trans i2
theorem sumI_flat {α β : Type} (f : β → Int) (g : α → List β) : ∀ l : List α, sumI f (l.flatMap g) = sumI (fun a => sumI f (g a)) l
  | [] => rfl
  | a :: l => by rw [List.flatMap_cons, sumI_app, sumI_flat f g l, sumI]
theorem sumI_map {α β : Type} (f : β → Int) (g : α → β) : ∀ l : List α, sumI f (l.map g) = sumI (fun a => f (g a)) l
  | [] => rfl
  | a :: l => by rw [List.map_cons, sumI, sumI, sumI_map f g l]
theorem sumI_congr {α : Type} {f g : α → Int} : ∀ l : List α, (∀ a, a ∈ l → f a = g a) → sumI f l = sumI g l
  | [], _ => rfl
  | a :: l, h => by rw [sumI, sumI, h a (List.mem_cons_self ..), sumI_congr l fun b hb => h b (List.mem_cons_of_mem _ hb)]
theorem far_ge (I : Int → Int → Bool) (x y dx dy : Int) : ∀ n f, f ≤ farN I x y dx dy n f
  | 0, f => Nat.le_refl _
  | n + 1, f => by
    unfold farN
    split
    · exact Nat.le_trans (Nat.le_succ f) (far_ge I x y dx dy n (f + 1))
    · exact Nat.le_refl _
theorem idx_dirs {k : Nat} {w : W4} (h : w ∈ idxK k) : (w.x1, w.y1) ∈ dirs ∧ 0 ≤ w.x0 ∧ w.x0 ≤ 4 ∧ 0 ≤ w.y0 := by
  unfold idxK at h
  obtain ⟨j, hj, h⟩ := List.mem_flatMap.mp h
  obtain ⟨d, hd, rfl⟩ := List.mem_map.mp h
  exact ⟨hd, by simp only; omega, by simp only; omega, by simp only; omega⟩
theorem sum_ways {I : Int → Int → Bool} (h : ∀ x y, I x y = true → (0 ≤ x ∧ x < 4) ∧ (0 ≤ y ∧ y < 4)) (f : W4 → Int)
    (ha : ∀ (x y : Int) (d : Int × Int) (n : Nat), d ∈ dirs → 1 ≤ n → f ⟨x, y, x + n * d.1, y + n * d.2⟩ = sumI f (stepsN x y d.1 d.2 n)) : sumI f (waysOf I) = sumI f (unitsOf I) := by
  rw [← sumI_perm f (units_perm h)]
  unfold waysOf
  rw [sumI_flat, sumI_flat]
  refine sumI_congr _ fun w hw => ?_
  have hd := (idx_dirs hw).1
  unfold wayL expL
  split
  · rw [sumI, sumI, Int.add_zero]
    exact ha w.x0 w.y0 (w.x1, w.y1) _ hd (far_ge I _ _ _ _ 6 1)
  · rfl
theorem any_ways {I : Int → Int → Bool} (h : ∀ x y, I x y = true → (0 ≤ x ∧ x < 4) ∧ (0 ≤ y ∧ y < 4)) (f : W4 → Bool)
    (ha : ∀ (x y : Int) (d : Int × Int) (n : Nat), d ∈ dirs → 1 ≤ n → f ⟨x, y, x + n * d.1, y + n * d.2⟩ = (stepsN x y d.1 d.2 n).any f) : (waysOf I).any f = (unitsOf I).any f := by
  have e : (unitsOf I).any f = ((idxK 25).flatMap (expL I)).any f := by
    rw [Bool.eq_iff_iff, List.any_eq_true, List.any_eq_true]
    constructor
    · rintro ⟨w, hw, hf⟩
      exact ⟨w, (units_perm h).mem_iff.mpr hw, hf⟩
    · rintro ⟨w, hw, hf⟩
      exact ⟨w, (units_perm h).mem_iff.mp hw, hf⟩
  rw [e]
  unfold waysOf
  rw [List.any_flatMap, List.any_flatMap]
  have : ∀ w, w ∈ idxK 25 → (wayL I w).any f = (expL I w).any f := fun w hw => by
    have hd := (idx_dirs hw).1
    unfold wayL expL
    split
    · rw [List.any_cons, List.any_nil, Bool.or_false]
      exact ha w.x0 w.y0 (w.x1, w.y1) _ hd (far_ge I _ _ _ _ 6 1)
    · rfl
  rw [Bool.eq_iff_iff, List.any_eq_true, List.any_eq_true]
  constructor
  · rintro ⟨w, hw, hf⟩
    exact ⟨w, hw, by rw [← this w hw]; exact hf⟩
  · rintro ⟨w, hw, hf⟩
    exact ⟨w, hw, by rw [this w hw]; exact hf⟩
theorem add_up (f : W4 → Int) (hs : ∀ (x y : Int) (d : Int × Int) (n : Nat), d ∈ dirs → 1 ≤ n → f ⟨x, y, x + (n + 1 : Nat) * d.1, y + (n + 1 : Nat) * d.2⟩ = f ⟨x, y, x + d.1, y + d.2⟩ + f ⟨x + d.1, y + d.2, x + d.1 + n * d.1, y + d.2 + n * d.2⟩) :
    ∀ (n : Nat) (x y : Int) (d : Int × Int), d ∈ dirs → 1 ≤ n → f ⟨x, y, x + n * d.1, y + n * d.2⟩ = sumI f (stepsN x y d.1 d.2 n)
  | 0, _, _, _, _, h => by omega
  | 1, x, y, d, _, _ => by
    rw [stepsN, stepsN, sumI, sumI, Int.add_zero]
    simp
  | n + 2, x, y, d, hd, _ => by
    rw [hs x y d (n + 1) hd (by omega), add_up f hs (n + 1) (x + d.1) (y + d.2) d hd (by omega)]
    rfl
structure M7 where
  a : Int
  b : Int
  c : Int
  d : Int
  e : Int
  f : Int
  m : Int
def quads : List (Int × Int × Int × Int) := [(1, 0, 0, 1), (2, 1, 0, 1), (1, 1, -1, 1), (3, -1, 1, 2), (1, 2, 0, 1), (0, -1, 1, 0), (5, 3, 3, 2), (-1, 0, 2, -3)]
structure MOk (M : M7) : Prop where
  q : (M.a, M.b, M.c, M.d) ∈ quads
  m : M.m = 1 ∨ M.m = 2 ∨ M.m = 3 ∨ M.m = 6
  e : M.e.natAbs < 2 ^ 70
  f : M.f.natAbs < 2 ^ 70
def fx (M : M7) (x y : Int) : Int := M.a * x + M.b * y
def fy (M : M7) (x y : Int) : Int := M.c * x + M.d * y
def crW (M : M7) (w : W4) : Int := (fx M w.x0 w.y0 + M.e) * (fy M w.x1 w.y1 + M.f) - (fx M w.x1 w.y1 + M.e) * (fy M w.x0 w.y0 + M.f)
theorem cr_add (M : M7) (x y : Int) (d : Int × Int) (n : Nat) : crW M ⟨x, y, x + (n + 1 : Nat) * d.1, y + (n + 1 : Nat) * d.2⟩ = crW M ⟨x, y, x + d.1, y + d.2⟩ + crW M ⟨x + d.1, y + d.2, x + d.1 + n * d.1, y + d.2 + n * d.2⟩ := by
  obtain ⟨p, q⟩ := d
  unfold crW fx fy
  simp only
  rw [Int.natCast_add]
  generalize (n : Int) = k
  grind
theorem sum_line (f : Int × Int → Int) (L R : Int → Bool) : sumI f (lineU L R) = sumI (fun t => if e1 L R t = 1 then f (t, t + 1) else if e1 L R t = -1 then f (t + 1, t) else 0) [0, 1, 2, 3] := by
  unfold lineU
  rw [sumI_flat]
  refine sumI_congr _ fun t _ => ?_
  unfold unit1
  split
  · simp [sumI]
  · split
    · simp [sumI]
    · rfl
theorem sum_units (f : W4 → Int) (I : Int → Int → Bool) : sumI f (unitsOf I) = sumI (fun y => sumI (fun t => if eH I t y = 1 then f ⟨t, y, t + 1, y⟩ else if eH I t y = -1 then f ⟨t + 1, y, t, y⟩ else 0) [0, 1, 2, 3]) fives + sumI (fun x => sumI (fun t => if eV I x t = 1 then f ⟨x, t, x, t + 1⟩ else if eV I x t = -1 then f ⟨x, t + 1, x, t⟩ else 0) [0, 1, 2, 3]) fives := by
  unfold unitsOf
  rw [sumI_app, sumI_flat, sumI_flat]
  congr 1
  · refine sumI_congr _ fun y _ => ?_
    rw [sumI_map, sum_line]
    rfl
  · refine sumI_congr _ fun x _ => ?_
    rw [sumI_map, sum_line]
    rfl
theorem b2_cases (b : Bool) : (b = true ∧ b2 b = 1) ∨ (b = false ∧ b2 b = 0) := by cases b <;> decide
theorem e_cases (p q : Bool) : (b2 p - b2 q = 1 ∧ p = true ∧ q = false) ∨ (b2 p - b2 q = -1 ∧ p = false ∧ q = true) ∨ (b2 p - b2 q = 0 ∧ p = q) := by
  cases p <;> cases q <;> decide
theorem cr_h (M : M7) (t y : Int) : crW M ⟨t, y, t + 1, y⟩ = (M.c * M.e - M.a * M.f) - (M.a * M.d - M.b * M.c) * y ∧ crW M ⟨t + 1, y, t, y⟩ = -((M.c * M.e - M.a * M.f) - (M.a * M.d - M.b * M.c) * y) := by
  unfold crW fx fy
  simp only
  constructor <;> grind
theorem cr_v (M : M7) (x t : Int) : crW M ⟨x, t, x, t + 1⟩ = (M.d * M.e - M.b * M.f) + (M.a * M.d - M.b * M.c) * x ∧ crW M ⟨x, t + 1, x, t⟩ = -((M.d * M.e - M.b * M.f) + (M.a * M.d - M.b * M.c) * x) := by
  unfold crW fx fy
  simp only
  constructor <;> grind
def cells (I : Int → Int → Bool) : Int := sumI (fun y => sumI (fun x => b2 (I x y)) [0, 1, 2, 3]) [0, 1, 2, 3]
theorem e_mul (p q : Bool) (k : Int) : (if b2 p - b2 q = 1 then k else if b2 p - b2 q = -1 then -k else 0) = (b2 p - b2 q) * k := by
  rcases e_cases p q with ⟨e, _⟩ | ⟨e, _⟩ | ⟨e, _⟩
  · rw [e, if_pos rfl, Int.one_mul]
  · rw [e, if_neg (by decide), if_pos rfl, Int.neg_one_mul]
  · rw [e, if_neg (by decide), if_neg (by decide), Int.zero_mul]
theorem swap_sum (T : Int → Int → Int) : sumI (fun y => sumI (fun t => T t y) [0, 1, 2, 3]) fives = sumI (fun t => sumI (fun y => T t y) fives) [0, 1, 2, 3] := by
  simp only [sumI, fives]
  omega
theorem col_h (i0 i1 i2 i3 k D : Int) : (i0 - 0) * (k - D * 0) + ((i1 - i0) * (k - D * 1) + ((i2 - i1) * (k - D * 2) + ((i3 - i2) * (k - D * 3) + ((0 - i3) * (k - D * 4) + 0)))) = D * (i0 + (i1 + (i2 + (i3 + 0)))) := by grind
theorem col_v (i0 i1 i2 i3 k D : Int) : (0 - i0) * (k + D * 0) + ((i0 - i1) * (k + D * 1) + ((i1 - i2) * (k + D * 2) + ((i2 - i3) * (k + D * 3) + ((i3 - 0) * (k + D * 4) + 0)))) = D * (i0 + (i1 + (i2 + (i3 + 0)))) := by grind
theorem area_units {I : Int → Int → Bool} (h : ∀ x y, I x y = true → (0 ≤ x ∧ x < 4) ∧ (0 ≤ y ∧ y < 4)) (M : M7) : sumI (crW M) (unitsOf I) = 2 * ((M.a * M.d - M.b * M.c) * cells I) := by
  have out : ∀ x y, ¬ ((0 ≤ x ∧ x < 4) ∧ (0 ≤ y ∧ y < 4)) → b2 (I x y) = 0 := fun x y n => by
    rcases b2_cases (I x y) with ⟨e, _⟩ | ⟨_, e⟩
    · exact absurd (h x y e) n
    · exact e
  rw [sum_units]
  have eh : (sumI (fun y => sumI (fun t => if eH I t y = 1 then crW M ⟨t, y, t + 1, y⟩ else if eH I t y = -1 then crW M ⟨t + 1, y, t, y⟩ else 0) [0, 1, 2, 3]) fives) = (M.a * M.d - M.b * M.c) * cells I := by
    have e : ∀ t y, (if eH I t y = 1 then crW M ⟨t, y, t + 1, y⟩ else if eH I t y = -1 then crW M ⟨t + 1, y, t, y⟩ else 0) = (b2 (I t y) - b2 (I t (y - 1))) * ((M.c * M.e - M.a * M.f) - (M.a * M.d - M.b * M.c) * y) := fun t y => by
      rw [(cr_h M t y).1, (cr_h M t y).2]
      exact e_mul _ _ _
    simp only [e]
    rw [swap_sum fun t y => (b2 (I t y) - b2 (I t (y - 1))) * ((M.c * M.e - M.a * M.f) - (M.a * M.d - M.b * M.c) * y)]
    have col : ∀ t, sumI (fun y => (b2 (I t y) - b2 (I t (y - 1))) * ((M.c * M.e - M.a * M.f) - (M.a * M.d - M.b * M.c) * y)) fives = (M.a * M.d - M.b * M.c) * (b2 (I t 0) + (b2 (I t 1) + (b2 (I t 2) + (b2 (I t 3) + 0)))) := fun t => by
      have z1 : b2 (I t (0 - 1)) = 0 := out t (0 - 1) (by omega)
      have z2 : b2 (I t 4) = 0 := out t 4 (by omega)
      have c := col_h (b2 (I t 0)) (b2 (I t 1)) (b2 (I t 2)) (b2 (I t 3)) (M.c * M.e - M.a * M.f) (M.a * M.d - M.b * M.c)
      simp only [sumI, fives]
      rw [z1, z2]
      exact c
    simp only [col]
    simp only [sumI, cells]
    generalize M.a * M.d - M.b * M.c = D
    grind
  have ev : (sumI (fun x => sumI (fun t => if eV I x t = 1 then crW M ⟨x, t, x, t + 1⟩ else if eV I x t = -1 then crW M ⟨x, t + 1, x, t⟩ else 0) [0, 1, 2, 3]) fives) = (M.a * M.d - M.b * M.c) * cells I := by
    have e : ∀ t x, (if eV I x t = 1 then crW M ⟨x, t, x, t + 1⟩ else if eV I x t = -1 then crW M ⟨x, t + 1, x, t⟩ else 0) = (b2 (I (x - 1) t) - b2 (I x t)) * ((M.d * M.e - M.b * M.f) + (M.a * M.d - M.b * M.c) * x) := fun t x => by
      rw [(cr_v M x t).1, (cr_v M x t).2]
      exact e_mul _ _ _
    simp only [e]
    rw [swap_sum fun t x => (b2 (I (x - 1) t) - b2 (I x t)) * ((M.d * M.e - M.b * M.f) + (M.a * M.d - M.b * M.c) * x)]
    have col : ∀ t, sumI (fun x => (b2 (I (x - 1) t) - b2 (I x t)) * ((M.d * M.e - M.b * M.f) + (M.a * M.d - M.b * M.c) * x)) fives = (M.a * M.d - M.b * M.c) * (b2 (I 0 t) + (b2 (I 1 t) + (b2 (I 2 t) + (b2 (I 3 t) + 0)))) := fun t => by
      have z1 : b2 (I (0 - 1) t) = 0 := out (0 - 1) t (by omega)
      have z2 : b2 (I 4 t) = 0 := out 4 t (by omega)
      have c := col_v (b2 (I 0 t)) (b2 (I 1 t)) (b2 (I 2 t)) (b2 (I 3 t)) (M.d * M.e - M.b * M.f) (M.a * M.d - M.b * M.c)
      simp only [sumI, fives]
      rw [z1, z2]
      exact c
    simp only [col]
    simp only [sumI, cells]
    generalize M.a * M.d - M.b * M.c = D
    grind
  rw [eh, ev]
  omega
theorem area_ways {I : Int → Int → Bool} (h : ∀ x y, I x y = true → (0 ≤ x ∧ x < 4) ∧ (0 ≤ y ∧ y < 4)) (M : M7) : sumI (crW M) (waysOf I) = 2 * ((M.a * M.d - M.b * M.c) * cells I) := by
  rw [← area_units h M]
  exact sum_ways h _ fun x y d n hd hn => add_up (crW M) (fun x y d n _ _ => cr_add M x y d n) n x y d hd hn
def ab0 (α β u v : Int) : Bool := if 0 < α then decide (0 ≤ u ∧ u < 2 * α ∧ α * v - β * u < 0) else if α < 0 then decide (2 * α ≤ u ∧ u < 0 ∧ 0 < α * v - β * u) else false
def lpos (α β : Int) : Prop := 0 < α ∨ (α = 0 ∧ 0 < β)
instance (α β : Int) : Decidable (lpos α β) := inferInstanceAs (Decidable (_ ∨ _))
def on0 (α β u v : Int) : Bool := decide (α * v - β * u = 0) && (if lpos α β then decide (¬ lpos (-u) (-v) ∧ ¬ lpos (u - 2 * α) (v - 2 * β)) else decide (¬ lpos (2 * α - u) (2 * β - v) ∧ ¬ lpos u v))
def abW (M : M7) (X Y : Int) (w : W4) : Bool := ab0 (fx M (w.x1 - w.x0) (w.y1 - w.y0)) (fy M (w.x1 - w.x0) (w.y1 - w.y0)) (fx M (X - 2 * w.x0) (Y - 2 * w.y0)) (fy M (X - 2 * w.x0) (Y - 2 * w.y0))
def onW (M : M7) (X Y : Int) (w : W4) : Bool := on0 (fx M (w.x1 - w.x0) (w.y1 - w.y0)) (fy M (w.x1 - w.x0) (w.y1 - w.y0)) (fx M (X - 2 * w.x0) (Y - 2 * w.y0)) (fy M (X - 2 * w.x0) (Y - 2 * w.y0))
theorem sgn_scale {k z : Int} (hk : 0 < k) : (k * z < 0 ↔ z < 0) ∧ (0 < k * z ↔ 0 < z) ∧ (k * z = 0 ↔ z = 0) := by
  refine ⟨⟨fun h => ?_, fun h => Int.mul_neg_of_pos_of_neg hk h⟩, ⟨fun h => ?_, fun h => Int.mul_pos hk h⟩, ⟨fun h => ?_, fun h => by rw [h, Int.mul_zero]⟩⟩
  · by_cases z0 : z < 0
    · exact z0
    · have := Int.mul_nonneg (Int.le_of_lt hk) (show 0 ≤ z by omega)
      omega
  · by_cases z0 : 0 < z
    · exact z0
    · have := Int.mul_nonneg (Int.le_of_lt hk) (show 0 ≤ -z by omega)
      rw [Int.mul_neg] at this
      omega
  · rcases Int.mul_eq_zero.mp h with e | e
    · omega
    · exact e
theorem ab_cut (α β u v : Int) (n : Nat) (hn : 1 ≤ n) : b2 (ab0 ((n + 1 : Nat) * α) ((n + 1 : Nat) * β) u v) = b2 (ab0 α β u v) + b2 (ab0 (n * α) (n * β) (u - 2 * α) (v - 2 * β)) := by
  have hn' : (0 : Int) < n := by omega
  have e1 : ((n + 1 : Nat) : Int) * α * v - ((n + 1 : Nat) : Int) * β * u = ((n + 1 : Nat) : Int) * (α * v - β * u) := by grind
  have e2 : (n : Int) * α * (v - 2 * β) - (n : Int) * β * (u - 2 * α) = (n : Int) * (α * v - β * u) := by grind
  have e3 : ((n + 1 : Nat) : Int) * α = n * α + α := by rw [Int.natCast_add]; grind
  obtain ⟨s1, s2, _⟩ := sgn_scale (k := ((n + 1 : Nat) : Int)) (z := α * v - β * u) (by omega)
  obtain ⟨t1, t2, _⟩ := sgn_scale (k := (n : Int)) (z := α * v - β * u) hn'
  obtain ⟨p1, p2, p3⟩ := sgn_scale (k := (n : Int)) (z := α) hn'
  unfold ab0
  rw [e1, e2, e3]
  generalize ((n + 1 : Nat) : Int) * (α * v - β * u) = A at *
  generalize (n : Int) * (α * v - β * u) = B at *
  generalize α * v - β * u = C at *
  generalize (n : Int) * α = N at *
  rcases Int.lt_trichotomy α 0 with c | c | c
  · rw [if_neg (by omega), if_pos (by omega), if_neg (by omega), if_pos c, if_neg (by omega), if_pos (by omega)]
    by_cases d : 0 < C
    · by_cases x : 2 * α ≤ u ∧ u < 0
      · rw [decide_eq_true ⟨by omega, by omega, by omega⟩, decide_eq_true ⟨x.1, x.2, d⟩, decide_eq_false (by omega)]
        decide
      · rw [decide_eq_false (p := 2 * α ≤ u ∧ u < 0 ∧ 0 < C) (by omega)]
        by_cases y : 2 * (N + α) ≤ u ∧ u < 0
        · rw [decide_eq_true ⟨y.1, y.2, by omega⟩, decide_eq_true ⟨by omega, by omega, by omega⟩]
          decide
        · rw [decide_eq_false (by omega), decide_eq_false (by omega)]
          decide
    · rw [decide_eq_false (by omega), decide_eq_false (by omega), decide_eq_false (by omega)]
      decide
  · rw [if_neg (by omega), if_neg (by omega), if_neg (by omega), if_neg (by omega), if_neg (by omega), if_neg (by omega)]
    decide
  · rw [if_pos (by omega), if_pos c, if_pos (by omega)]
    by_cases d : C < 0
    · by_cases x : 0 ≤ u ∧ u < 2 * α
      · rw [decide_eq_true ⟨by omega, by omega, by omega⟩, decide_eq_true ⟨x.1, x.2, d⟩, decide_eq_false (by omega)]
        decide
      · rw [decide_eq_false (p := 0 ≤ u ∧ u < 2 * α ∧ C < 0) (by omega)]
        by_cases y : 0 ≤ u ∧ u < 2 * (N + α)
        · rw [decide_eq_true ⟨y.1, y.2, by omega⟩, decide_eq_true ⟨by omega, by omega, by omega⟩]
          decide
        · rw [decide_eq_false (by omega), decide_eq_false (by omega)]
          decide
    · rw [decide_eq_false (by omega), decide_eq_false (by omega), decide_eq_false (by omega)]
      decide
theorem ab_back (α β u v : Int) : ab0 (-α) (-β) (u - 2 * α) (v - 2 * β) = ab0 α β u v := by
  have e : -α * (v - 2 * β) - -β * (u - 2 * α) = -(α * v - β * u) := by grind
  unfold ab0
  rw [e]
  generalize α * v - β * u = C
  rcases Int.lt_trichotomy α 0 with c | c | c
  · rw [if_pos (by omega), if_neg (by omega), if_pos c]
    exact decide_eq_decide.mpr (by omega)
  · rw [if_neg (by omega), if_neg (by omega), if_neg (by omega), if_neg (by omega)]
  · rw [if_neg (by omega), if_pos (by omega), if_pos c]
    exact decide_eq_decide.mpr (by omega)
theorem fx_mul (M : M7) (n : Int) (x y : Int) : fx M (n * x) (n * y) = n * fx M x y ∧ fy M (n * x) (n * y) = n * fy M x y := by
  unfold fx fy
  constructor <;> grind
theorem fx_sub (M : M7) (X Y x y p q : Int) : fx M (X - 2 * (x + p)) (Y - 2 * (y + q)) = fx M (X - 2 * x) (Y - 2 * y) - 2 * fx M p q ∧ fy M (X - 2 * (x + p)) (Y - 2 * (y + q)) = fy M (X - 2 * x) (Y - 2 * y) - 2 * fy M p q := by
  unfold fx fy
  constructor <;> grind
theorem abW_add (M : M7) (X Y x y : Int) (d : Int × Int) (n : Nat) (hn : 1 ≤ n) : b2 (abW M X Y ⟨x, y, x + (n + 1 : Nat) * d.1, y + (n + 1 : Nat) * d.2⟩) = b2 (abW M X Y ⟨x, y, x + d.1, y + d.2⟩) + b2 (abW M X Y ⟨x + d.1, y + d.2, x + d.1 + n * d.1, y + d.2 + n * d.2⟩) := by
  obtain ⟨p, q⟩ := d
  unfold abW
  simp only
  rw [show x + ((n + 1 : Nat) : Int) * p - x = ((n + 1 : Nat) : Int) * p by omega, show y + ((n + 1 : Nat) : Int) * q - y = ((n + 1 : Nat) : Int) * q by omega, show x + p - x = p by omega, show y + q - y = q by omega, show x + p + (n : Int) * p - (x + p) = n * p by omega, show y + q + (n : Int) * q - (y + q) = n * q by omega]
  rw [(fx_mul M _ p q).1, (fx_mul M _ p q).2, (fx_mul M n p q).1, (fx_mul M n p q).2, (fx_sub M X Y x y p q).1, (fx_sub M X Y x y p q).2]
  exact ab_cut _ _ _ _ n hn
theorem abW_back (M : M7) (X Y x y p q : Int) : abW M X Y ⟨x + p, y + q, x, y⟩ = abW M X Y ⟨x, y, x + p, y + q⟩ := by
  unfold abW
  simp only
  rw [show x - (x + p) = -1 * p by omega, show y - (y + q) = -1 * q by omega, show x + p - x = p by omega, show y + q - y = q by omega, (fx_mul M (-1) p q).1, (fx_mul M (-1) p q).2, (fx_sub M X Y x y p q).1, (fx_sub M X Y x y p q).2, Int.neg_one_mul, Int.neg_one_mul]
  exact ab_back _ _ _ _
theorem above_ways {I : Int → Int → Bool} (h : ∀ x y, I x y = true → (0 ≤ x ∧ x < 4) ∧ (0 ≤ y ∧ y < 4)) (M : M7) (X Y : Int) : sumI (fun w => b2 (abW M X Y w)) (waysOf I) = sumI (fun w => b2 (abW M X Y w)) (unitsOf I) :=
  sum_ways h _ fun x y d n hd hn => add_up (fun w => b2 (abW M X Y w)) (fun x y d n _ hn => abW_add M X Y x y d n hn) n x y d hd hn
def hE (M : M7) (dx dy : Int) : Int := b2 (ab0 (fx M 1 0) (fy M 1 0) (fx M dx dy) (fy M dx dy))
def vE (M : M7) (dx dy : Int) : Int := b2 (ab0 (fx M 0 1) (fy M 0 1) (fx M dx dy) (fy M dx dy))
def par (M : M7) (dx dy : Int) : Int := hE M dx dy + hE M dx (dy - 2) + vE M dx dy + vE M (dx - 2) dy
theorem abW_h (M : M7) (X Y t y : Int) : b2 (abW M X Y ⟨t, y, t + 1, y⟩) = hE M (X - 2 * t) (Y - 2 * y) ∧ b2 (abW M X Y ⟨t + 1, y, t, y⟩) = hE M (X - 2 * t) (Y - 2 * y) := by
  have e : b2 (abW M X Y ⟨t, y, t + 1, y⟩) = hE M (X - 2 * t) (Y - 2 * y) := by
    unfold abW hE
    simp only
    rw [show t + 1 - t = 1 by omega, show y - y = 0 by omega]
  refine ⟨e, ?_⟩
  have b := abW_back M X Y t y 1 0
  rw [Int.add_zero] at b
  rw [b]
  exact e
theorem abW_v (M : M7) (X Y x t : Int) : b2 (abW M X Y ⟨x, t, x, t + 1⟩) = vE M (X - 2 * x) (Y - 2 * t) ∧ b2 (abW M X Y ⟨x, t + 1, x, t⟩) = vE M (X - 2 * x) (Y - 2 * t) := by
  have e : b2 (abW M X Y ⟨x, t, x, t + 1⟩) = vE M (X - 2 * x) (Y - 2 * t) := by
    unfold abW vE
    simp only
    rw [show t + 1 - t = 1 by omega, show x - x = 0 by omega]
  refine ⟨e, ?_⟩
  have b := abW_back M X Y x t 0 1
  rw [Int.add_zero] at b
  rw [b]
  exact e
def gv (b : Bool) (k : Int) : Int := if b = true then k else 0
theorem xor_mod (p q : Bool) (k : Int) : ((if b2 p - b2 q = 1 then k else if b2 p - b2 q = -1 then k else 0) - (gv p k + gv q k)) % 2 = 0 := by
  rcases e_cases p q with ⟨e, h1, h2⟩ | ⟨e, h1, h2⟩ | ⟨e, h1⟩
  · rw [e, if_pos rfl, h1, h2]; simp [gv]
  · rw [e, if_neg (by decide), if_pos rfl, h1, h2]; simp [gv]
  · rw [e, if_neg (by decide), if_neg (by decide), h1]
    unfold gv
    split
    · omega
    · decide
theorem sum_mod {α : Type} {f g : α → Int} : ∀ l : List α, (∀ a, a ∈ l → (f a - g a) % 2 = 0) → (sumI f l - sumI g l) % 2 = 0
  | [], _ => by simp [sumI]
  | a :: l, h => by
    have h1 := h a (List.mem_cons_self ..)
    have h2 := sum_mod l fun b hb => h b (List.mem_cons_of_mem _ hb)
    rw [sumI, sumI]
    omega
theorem colh_mod (i0 i1 i2 i3 : Bool) (k0 k1 k2 k3 k4 : Int) : (gv i0 k0 + 0) + ((gv i1 k1 + gv i0 k1) + ((gv i2 k2 + gv i1 k2) + ((gv i3 k3 + gv i2 k3) + ((0 + gv i3 k4) + 0)))) = gv i0 (k0 + k1) + (gv i1 (k1 + k2) + (gv i2 (k2 + k3) + (gv i3 (k3 + k4) + 0))) := by
  cases i0 <;> cases i1 <;> cases i2 <;> cases i3 <;> simp [gv] <;> omega
theorem gv_add (b : Bool) (k l : Int) : gv b (k + l) = gv b k + gv b l := by unfold gv; split <;> simp
theorem above_cells {I : Int → Int → Bool} (h : ∀ x y, I x y = true → (0 ≤ x ∧ x < 4) ∧ (0 ≤ y ∧ y < 4)) (M : M7) (X Y : Int) :
    (sumI (fun w => b2 (abW M X Y w)) (unitsOf I) - sumI (fun x => sumI (fun y => gv (I x y) (par M (X - 2 * x) (Y - 2 * y))) [0, 1, 2, 3]) [0, 1, 2, 3]) % 2 = 0 := by
  have out : ∀ x y k, ¬ ((0 ≤ x ∧ x < 4) ∧ (0 ≤ y ∧ y < 4)) → gv (I x y) k = 0 := fun x y k n => by
    unfold gv
    split
    · rename_i e
      exact absurd (h x y e) n
    · rfl
  rw [sum_units]
  have eh : (sumI (fun y => sumI (fun t => if eH I t y = 1 then b2 (abW M X Y ⟨t, y, t + 1, y⟩) else if eH I t y = -1 then b2 (abW M X Y ⟨t + 1, y, t, y⟩) else 0) [0, 1, 2, 3]) fives - sumI (fun x => sumI (fun y => gv (I x y) (hE M (X - 2 * x) (Y - 2 * y) + hE M (X - 2 * x) (Y - 2 * (y + 1)))) [0, 1, 2, 3]) [0, 1, 2, 3]) % 2 = 0 := by
    rw [swap_sum fun t y => if eH I t y = 1 then b2 (abW M X Y ⟨t, y, t + 1, y⟩) else if eH I t y = -1 then b2 (abW M X Y ⟨t + 1, y, t, y⟩) else 0]
    refine sum_mod _ fun t _ => ?_
    have m := sum_mod (f := fun y => if eH I t y = 1 then b2 (abW M X Y ⟨t, y, t + 1, y⟩) else if eH I t y = -1 then b2 (abW M X Y ⟨t + 1, y, t, y⟩) else 0) (g := fun y => gv (I t y) (hE M (X - 2 * t) (Y - 2 * y)) + gv (I t (y - 1)) (hE M (X - 2 * t) (Y - 2 * y))) fives fun y _ => by
      rw [(abW_h M X Y t y).1, (abW_h M X Y t y).2]
      exact xor_mod _ _ _
    have c := colh_mod (I t 0) (I t 1) (I t 2) (I t 3) (hE M (X - 2 * t) (Y - 2 * 0)) (hE M (X - 2 * t) (Y - 2 * 1)) (hE M (X - 2 * t) (Y - 2 * 2)) (hE M (X - 2 * t) (Y - 2 * 3)) (hE M (X - 2 * t) (Y - 2 * 4))
    have e : sumI (fun y => gv (I t y) (hE M (X - 2 * t) (Y - 2 * y)) + gv (I t (y - 1)) (hE M (X - 2 * t) (Y - 2 * y))) fives = sumI (fun y => gv (I t y) (hE M (X - 2 * t) (Y - 2 * y) + hE M (X - 2 * t) (Y - 2 * (y + 1)))) [0, 1, 2, 3] := by
      simp only [sumI, fives]
      rw [out t (0 - 1) _ (by omega), out t 4 _ (by omega)]
      exact c
    rw [e] at m
    exact m
  have ev : (sumI (fun x => sumI (fun t => if eV I x t = 1 then b2 (abW M X Y ⟨x, t, x, t + 1⟩) else if eV I x t = -1 then b2 (abW M X Y ⟨x, t + 1, x, t⟩) else 0) [0, 1, 2, 3]) fives - sumI (fun x => sumI (fun y => gv (I x y) (vE M (X - 2 * x) (Y - 2 * y) + vE M (X - 2 * (x + 1)) (Y - 2 * y))) [0, 1, 2, 3]) [0, 1, 2, 3]) % 2 = 0 := by
    rw [swap_sum fun t x => if eV I x t = 1 then b2 (abW M X Y ⟨x, t, x, t + 1⟩) else if eV I x t = -1 then b2 (abW M X Y ⟨x, t + 1, x, t⟩) else 0]
    have sw : sumI (fun x => sumI (fun y => gv (I x y) (vE M (X - 2 * x) (Y - 2 * y) + vE M (X - 2 * (x + 1)) (Y - 2 * y))) [0, 1, 2, 3]) [0, 1, 2, 3] = sumI (fun y => sumI (fun x => gv (I x y) (vE M (X - 2 * x) (Y - 2 * y) + vE M (X - 2 * (x + 1)) (Y - 2 * y))) [0, 1, 2, 3]) [0, 1, 2, 3] := by
      simp only [sumI]
      omega
    rw [sw]
    refine sum_mod _ fun t _ => ?_
    have m := sum_mod (f := fun x => if eV I x t = 1 then b2 (abW M X Y ⟨x, t, x, t + 1⟩) else if eV I x t = -1 then b2 (abW M X Y ⟨x, t + 1, x, t⟩) else 0) (g := fun x => gv (I (x - 1) t) (vE M (X - 2 * x) (Y - 2 * t)) + gv (I x t) (vE M (X - 2 * x) (Y - 2 * t))) fives fun x _ => by
      rw [(abW_v M X Y x t).1, (abW_v M X Y x t).2]
      exact xor_mod _ _ _
    have c := colh_mod (I 0 t) (I 1 t) (I 2 t) (I 3 t) (vE M (X - 2 * 0) (Y - 2 * t)) (vE M (X - 2 * 1) (Y - 2 * t)) (vE M (X - 2 * 2) (Y - 2 * t)) (vE M (X - 2 * 3) (Y - 2 * t)) (vE M (X - 2 * 4) (Y - 2 * t))
    have e : sumI (fun x => gv (I (x - 1) t) (vE M (X - 2 * x) (Y - 2 * t)) + gv (I x t) (vE M (X - 2 * x) (Y - 2 * t))) fives = sumI (fun x => gv (I x t) (vE M (X - 2 * x) (Y - 2 * t) + vE M (X - 2 * (x + 1)) (Y - 2 * t))) [0, 1, 2, 3] := by
      simp only [sumI, fives]
      rw [out (0 - 1) t _ (by omega), out 4 t _ (by omega)]
      rw [← show _ = gv (I 0 t) (vE M (X - 2 * 0) (Y - 2 * t) + vE M (X - 2 * (0 + 1)) (Y - 2 * t)) + (gv (I 1 t) (vE M (X - 2 * 1) (Y - 2 * t) + vE M (X - 2 * (1 + 1)) (Y - 2 * t)) + (gv (I 2 t) (vE M (X - 2 * 2) (Y - 2 * t) + vE M (X - 2 * (2 + 1)) (Y - 2 * t)) + (gv (I 3 t) (vE M (X - 2 * 3) (Y - 2 * t) + vE M (X - 2 * (3 + 1)) (Y - 2 * t)) + 0))) from c]
      simp only [show (1 : Int) - 1 = 0 from rfl, show (2 : Int) - 1 = 1 from rfl, show (3 : Int) - 1 = 2 from rfl, show (4 : Int) - 1 = 3 from rfl]
      omega
    rw [e] at m
    exact m
  have ec : sumI (fun x => sumI (fun y => gv (I x y) (par M (X - 2 * x) (Y - 2 * y))) [0, 1, 2, 3]) [0, 1, 2, 3] = sumI (fun x => sumI (fun y => gv (I x y) (hE M (X - 2 * x) (Y - 2 * y) + hE M (X - 2 * x) (Y - 2 * (y + 1)))) [0, 1, 2, 3]) [0, 1, 2, 3] + sumI (fun x => sumI (fun y => gv (I x y) (vE M (X - 2 * x) (Y - 2 * y) + vE M (X - 2 * (x + 1)) (Y - 2 * y))) [0, 1, 2, 3]) [0, 1, 2, 3] := by
    have one : ∀ x y, gv (I x y) (par M (X - 2 * x) (Y - 2 * y)) = gv (I x y) (hE M (X - 2 * x) (Y - 2 * y) + hE M (X - 2 * x) (Y - 2 * (y + 1))) + gv (I x y) (vE M (X - 2 * x) (Y - 2 * y) + vE M (X - 2 * (x + 1)) (Y - 2 * y)) := fun x y => by
      rw [← gv_add]
      unfold par
      rw [show Y - 2 * y - 2 = Y - 2 * (y + 1) by omega, show X - 2 * x - 2 = X - 2 * (x + 1) by omega]
      congr 1
      omega
    simp only [one, sumI]
    omega
  omega
def M0 (q : Int × Int × Int × Int) : M7 := ⟨q.1, q.2.1, q.2.2.1, q.2.2.2, 0, 0, 1⟩
theorem par_M0 {M : M7} (dx dy : Int) : par M dx dy = par (M0 (M.a, M.b, M.c, M.d)) dx dy := rfl
def r17 : List Int := (List.range 17).map fun (n : Nat) => (n : Int) - 7
def r7 : List Int := (List.range 7).map fun (n : Nat) => (n : Int) + 1
theorem far_chk : (quads.all fun q => r17.all fun dx => r17.all fun dy => decide (0 ≤ dx ∧ dx ≤ 2 ∧ 0 ≤ dy ∧ dy ≤ 2) || decide (par (M0 q) dx dy % 2 = 0)) = true := by decide +kernel
theorem near_chk : (quads.all fun q => r7.all fun X => r7.all fun Y => decide (sumI (fun x => sumI (fun y => par (M0 q) (X - 2 * x) (Y - 2 * y)) [0, 1, 2, 3]) [0, 1, 2, 3] % 2 = 1)) = true := by decide +kernel
theorem mem_r17 {d : Int} (h : -7 ≤ d ∧ d ≤ 9) : d ∈ r17 := List.mem_map.mpr ⟨(d + 7).toNat, List.mem_range.mpr (by omega), by omega⟩
theorem mem_r7 {d : Int} (h : 1 ≤ d ∧ d ≤ 7) : d ∈ r7 := List.mem_map.mpr ⟨(d - 1).toNat, List.mem_range.mpr (by omega), by omega⟩
theorem par_far {M : M7} (hq : (M.a, M.b, M.c, M.d) ∈ quads) {dx dy : Int} (hx : -7 ≤ dx ∧ dx ≤ 9) (hy : -7 ≤ dy ∧ dy ≤ 9) (n : ¬ (0 ≤ dx ∧ dx ≤ 2 ∧ 0 ≤ dy ∧ dy ≤ 2)) : par M dx dy % 2 = 0 := by
  have c := List.all_eq_true.mp (List.all_eq_true.mp (List.all_eq_true.mp far_chk _ hq) _ (mem_r17 hx)) _ (mem_r17 hy)
  rw [decide_eq_false n, Bool.false_or] at c
  rw [par_M0]
  exact of_decide_eq_true c
theorem par_near {M : M7} (hq : (M.a, M.b, M.c, M.d) ∈ quads) {X Y : Int} (hx : 1 ≤ X ∧ X ≤ 7) (hy : 1 ≤ Y ∧ Y ≤ 7) : sumI (fun x => sumI (fun y => par M (X - 2 * x) (Y - 2 * y)) [0, 1, 2, 3]) [0, 1, 2, 3] % 2 = 1 := by
  have c := of_decide_eq_true (List.all_eq_true.mp (List.all_eq_true.mp (List.all_eq_true.mp near_chk _ hq) _ (mem_r7 hx)) _ (mem_r7 hy))
  exact c
theorem mem4 {x : Int} (h : x ∈ ([0, 1, 2, 3] : List Int)) : 0 ≤ x ∧ x ≤ 3 := by
  simp only [List.mem_cons, List.not_mem_nil, or_false] at h
  omega
def around (I : Int → Int → Bool) (X Y : Int) : List Bool := [I (X / 2) (Y / 2), I (X / 2) (Y / 2 + (Y % 2 - 1)), I (X / 2 + (X % 2 - 1)) (Y / 2), I (X / 2 + (X % 2 - 1)) (Y / 2 + (Y % 2 - 1))]
theorem near_is {X x : Int} (h : 0 ≤ X - 2 * x ∧ X - 2 * x ≤ 2) : x = X / 2 ∨ x = X / 2 + (X % 2 - 1) := by omega
theorem near_in {I : Int → Int → Bool} {X Y x y : Int} {v : Bool} (ha : ∀ b, b ∈ around I X Y → b = v) (hx : 0 ≤ X - 2 * x ∧ X - 2 * x ≤ 2) (hy : 0 ≤ Y - 2 * y ∧ Y - 2 * y ≤ 2) : I x y = v := by
  apply ha
  unfold around
  rcases near_is hx with e | e <;> rcases near_is hy with f | f <;> rw [e, f] <;> simp
theorem odd_above {I : Int → Int → Bool} (h : ∀ x y, I x y = true → (0 ≤ x ∧ x < 4) ∧ (0 ≤ y ∧ y < 4)) {M : M7} (hq : (M.a, M.b, M.c, M.d) ∈ quads) {X Y : Int} (hX : -1 ≤ X ∧ X ≤ 9) (hY : -1 ≤ Y ∧ Y ≤ 9) {v : Bool} (ha : ∀ b, b ∈ around I X Y → b = v) :
    sumI (fun w => b2 (abW M X Y w)) (waysOf I) % 2 = b2 v := by
  rw [above_ways h]
  have c := above_cells h M X Y
  have key : sumI (fun x => sumI (fun y => gv (I x y) (par M (X - 2 * x) (Y - 2 * y))) [0, 1, 2, 3]) [0, 1, 2, 3] % 2 = b2 v := by
    cases v with
    | false =>
      have e := sum_mod (f := fun x => sumI (fun y => gv (I x y) (par M (X - 2 * x) (Y - 2 * y))) [0, 1, 2, 3]) (g := fun _ => 0) [0, 1, 2, 3] fun x hx => by
        have e := sum_mod (f := fun y => gv (I x y) (par M (X - 2 * x) (Y - 2 * y))) (g := fun _ => 0) [0, 1, 2, 3] fun y hy => by
          have hx := mem4 hx
          have hy := mem4 hy
          unfold gv
          split
          · rename_i z
            have := par_far hq (dx := X - 2 * x) (dy := Y - 2 * y) (by omega) (by omega) (fun n => by rw [near_in ha ⟨n.1, n.2.1⟩ n.2.2] at z; cases z)
            omega
          · decide
        simp only [sumI] at e ⊢
        omega
      simp only [sumI] at e ⊢
      rw [show b2 false = 0 from rfl]
      omega
    | true =>
      have i1 := h _ _ (ha (I (X / 2) (Y / 2)) (by simp [around]))
      have i2 := h _ _ (ha (I (X / 2 + (X % 2 - 1)) (Y / 2 + (Y % 2 - 1))) (by simp [around]))
      have n := par_near hq (X := X) (Y := Y) (by omega) (by omega)
      have e := sum_mod (f := fun x => sumI (fun y => gv (I x y) (par M (X - 2 * x) (Y - 2 * y))) [0, 1, 2, 3]) (g := fun x => sumI (fun y => par M (X - 2 * x) (Y - 2 * y)) [0, 1, 2, 3]) [0, 1, 2, 3] fun x hx => by
        refine sum_mod _ fun y hy => ?_
        have hx := mem4 hx
        have hy := mem4 hy
        unfold gv
        split
        · omega
        · rename_i z
          have := par_far hq (dx := X - 2 * x) (dy := Y - 2 * y) (by omega) (by omega) (fun n => z (near_in ha ⟨n.1, n.2.1⟩ n.2.2))
          omega
      rw [show b2 true = 1 from rfl]
      omega
  omega
theorem lpos_mul {k α β : Int} (hk : 0 < k) : lpos (k * α) (k * β) ↔ lpos α β := by
  obtain ⟨_, a2, a3⟩ := sgn_scale (z := α) hk
  obtain ⟨_, b2, _⟩ := sgn_scale (z := β) hk
  unfold lpos
  rw [a2, a3, b2]
def onS (X Y x y p q : Int) (n : Int) : Prop := p * (Y - 2 * y) - q * (X - 2 * x) = 0 ∧ 0 ≤ p * (X - 2 * x) + q * (Y - 2 * y) ∧ p * (X - 2 * x) + q * (Y - 2 * y) ≤ 2 * n
theorem on_dir {a b c d : Int} (hq : (a, b, c, d) ∈ quads) {p q : Int} (hd : (p, q) ∈ dirs) {n : Int} (hn : 1 ≤ n) (dx dy : Int) :
    on0 (n * (a * p + b * q)) (n * (c * p + d * q)) (a * dx + b * dy) (c * dx + d * dy) = true ↔ (p * dy - q * dx = 0 ∧ 0 ≤ p * dx + q * dy ∧ p * dx + q * dy ≤ 2 * n) := by
  have z : n * (a * p + b * q) * (c * dx + d * dy) - n * (c * p + d * q) * (a * dx + b * dy) = n * ((a * p + b * q) * (c * dx + d * dy) - (c * p + d * q) * (a * dx + b * dy)) := by grind
  have z2 : (a * p + b * q) * (c * dx + d * dy) - (c * p + d * q) * (a * dx + b * dy) = (a * d - b * c) * (p * dy - q * dx) := by grind
  have l := lpos_mul (k := n) (α := a * p + b * q) (β := c * p + d * q) (by omega)
  have s := (sgn_scale (k := n) (z := (a * d - b * c) * (p * dy - q * dx)) (by omega)).2.2
  unfold on0
  rw [Bool.and_eq_true, decide_eq_true_eq, z, z2, s]
  simp only [l]
  simp only [quads, List.mem_cons, List.not_mem_nil, or_false, Prod.mk.injEq] at hq
  simp only [dirs, List.mem_cons, List.not_mem_nil, or_false, Prod.mk.injEq] at hd
  rcases hq with ⟨rfl, rfl, rfl, rfl⟩ | ⟨rfl, rfl, rfl, rfl⟩ | ⟨rfl, rfl, rfl, rfl⟩ | ⟨rfl, rfl, rfl, rfl⟩ | ⟨rfl, rfl, rfl, rfl⟩ | ⟨rfl, rfl, rfl, rfl⟩ | ⟨rfl, rfl, rfl, rfl⟩ | ⟨rfl, rfl, rfl, rfl⟩ <;>
  rcases hd with ⟨rfl, rfl⟩ | ⟨rfl, rfl⟩ | ⟨rfl, rfl⟩ | ⟨rfl, rfl⟩ <;>
  (unfold lpos; simp (config := { decide := true }) only [if_true, if_false, decide_eq_true_eq]; omega)
theorem onW_iff {M : M7} (hq : (M.a, M.b, M.c, M.d) ∈ quads) (X Y x y : Int) {d : Int × Int} (hd : d ∈ dirs) {n : Nat} (hn : 1 ≤ n) : onW M X Y ⟨x, y, x + n * d.1, y + n * d.2⟩ = true ↔ onS X Y x y d.1 d.2 n := by
  unfold onW onS
  simp only
  rw [show x + (n : Int) * d.1 - x = n * d.1 by omega, show y + (n : Int) * d.2 - y = n * d.2 by omega, (fx_mul M n d.1 d.2).1, (fx_mul M n d.1 d.2).2]
  exact on_dir hq hd (by omega) _ _
theorem onS_cut {X Y x y p q : Int} (hd : (p, q) ∈ dirs) {n : Nat} (hn : 1 ≤ n) : onS X Y x y p q (n + 1 : Nat) ↔ onS X Y x y p q 1 ∨ onS X Y (x + p) (y + q) p q n := by
  simp only [dirs, List.mem_cons, List.not_mem_nil, or_false, Prod.mk.injEq] at hd
  unfold onS
  rcases hd with ⟨rfl, rfl⟩ | ⟨rfl, rfl⟩ | ⟨rfl, rfl⟩ | ⟨rfl, rfl⟩ <;> omega
theorem on_steps {M : M7} (hq : (M.a, M.b, M.c, M.d) ∈ quads) (X Y : Int) : ∀ (n : Nat) (x y : Int) (d : Int × Int), d ∈ dirs → 1 ≤ n → onW M X Y ⟨x, y, x + n * d.1, y + n * d.2⟩ = (stepsN x y d.1 d.2 n).any (onW M X Y)
  | 0, _, _, _, _, h => by omega
  | 1, x, y, d, _, _ => by
    rw [stepsN, stepsN, List.any_cons, List.any_nil, Bool.or_false]
    simp
  | n + 2, x, y, d, hd, _ => by
    have c := onS_cut (X := X) (Y := Y) (x := x) (y := y) (p := d.1) (q := d.2) hd (n := n + 1) (by omega)
    rw [stepsN, List.any_cons, ← on_steps hq X Y (n + 1) (x + d.1) (y + d.2) d hd (by omega), Bool.eq_iff_iff, Bool.or_eq_true, onW_iff hq X Y x y hd (by omega), onW_iff hq X Y (x + d.1) (y + d.2) hd (by omega)]
    have o := onW_iff hq X Y x y hd (n := 1) (by omega)
    simp only [Int.natCast_one, Int.one_mul] at o
    rw [o]
    exact c
theorem on_ways {I : Int → Int → Bool} (h : ∀ x y, I x y = true → (0 ≤ x ∧ x < 4) ∧ (0 ≤ y ∧ y < 4)) {M : M7} (hq : (M.a, M.b, M.c, M.d) ∈ quads) (X Y : Int) : (waysOf I).any (onW M X Y) = (unitsOf I).any (onW M X Y) :=
  any_ways h _ fun x y d n hd hn => on_steps hq X Y n x y d hd hn
theorem on_unit {M : M7} (hq : (M.a, M.b, M.c, M.d) ∈ quads) (X Y t y : Int) : (onW M X Y ⟨t, y, t + 1, y⟩ = true ↔ Y = 2 * y ∧ 2 * t ≤ X ∧ X ≤ 2 * t + 2) ∧ (onW M X Y ⟨t + 1, y, t, y⟩ = true ↔ Y = 2 * y ∧ 2 * t ≤ X ∧ X ≤ 2 * t + 2) ∧
    (onW M X Y ⟨t, y, t, y + 1⟩ = true ↔ X = 2 * t ∧ 2 * y ≤ Y ∧ Y ≤ 2 * y + 2) ∧ (onW M X Y ⟨t, y + 1, t, y⟩ = true ↔ X = 2 * t ∧ 2 * y ≤ Y ∧ Y ≤ 2 * y + 2) := by
  have o1 := onW_iff hq X Y t y (d := (1, 0)) (by decide) (n := 1) (by omega)
  have o2 := onW_iff hq X Y (t + 1) y (d := (-1, 0)) (by decide) (n := 1) (by omega)
  have o3 := onW_iff hq X Y t y (d := (0, 1)) (by decide) (n := 1) (by omega)
  have o4 := onW_iff hq X Y t (y + 1) (d := (0, -1)) (by decide) (n := 1) (by omega)
  simp only [Int.natCast_one, Int.one_mul, Int.add_zero] at o1 o2 o3 o4
  rw [show t + 1 + -1 = t by omega] at o2
  rw [show y + 1 + -1 = y by omega] at o4
  unfold onS at o1 o2 o3 o4
  refine ⟨o1.trans ?_, o2.trans ?_, o3.trans ?_, o4.trans ?_⟩ <;> omega
theorem b2_ne {p q : Bool} : (b2 p - b2 q ≠ 0) ↔ p ≠ q := by cases p <;> cases q <;> decide
theorem on_units {I : Int → Int → Bool} {M : M7} (hq : (M.a, M.b, M.c, M.d) ∈ quads) (X Y : Int) : (unitsOf I).any (onW M X Y) = true ↔
    (∃ t y, (0 ≤ t ∧ t ≤ 3) ∧ (0 ≤ y ∧ y ≤ 4) ∧ I t y ≠ I t (y - 1) ∧ Y = 2 * y ∧ 2 * t ≤ X ∧ X ≤ 2 * t + 2) ∨ ∃ x t, (0 ≤ t ∧ t ≤ 3) ∧ (0 ≤ x ∧ x ≤ 4) ∧ I (x - 1) t ≠ I x t ∧ X = 2 * x ∧ 2 * t ≤ Y ∧ Y ≤ 2 * t + 2 := by
  have m5 : ∀ z : Int, z ∈ fives ↔ 0 ≤ z ∧ z ≤ 4 := fun z => by simp only [fives, List.mem_cons, List.not_mem_nil, or_false]; omega
  have m4 : ∀ z : Int, z ∈ ([0, 1, 2, 3] : List Int) ↔ 0 ≤ z ∧ z ≤ 3 := fun z => by simp only [List.mem_cons, List.not_mem_nil, or_false]; omega
  unfold unitsOf
  rw [List.any_append, Bool.or_eq_true, List.any_flatMap, List.any_flatMap, List.any_eq_true, List.any_eq_true]
  refine or_congr ?_ ?_
  · constructor
    · rintro ⟨y, hy, h⟩
      rw [List.any_map, List.any_eq_true] at h
      obtain ⟨p, hp, h⟩ := h
      unfold lineU at hp
      obtain ⟨t, ht, hp⟩ := List.mem_flatMap.mp hp
      unfold unit1 e1 at hp
      obtain ⟨o1, o2, _⟩ := on_unit hq X Y t y
      split at hp
      · rename_i e
        cases List.mem_singleton.mp hp
        exact ⟨t, y, (m4 t).mp ht, (m5 y).mp hy, b2_ne.mp (fun z => absurd (z.symm.trans e) (by decide)), o1.mp h⟩
      · split at hp
        · rename_i e
          cases List.mem_singleton.mp hp
          exact ⟨t, y, (m4 t).mp ht, (m5 y).mp hy, b2_ne.mp (fun z => absurd (z.symm.trans e) (by decide)), o2.mp h⟩
        · cases hp
    · rintro ⟨t, y, ht, hy, ne, h⟩
      refine ⟨y, (m5 y).mpr hy, ?_⟩
      rw [List.any_map, List.any_eq_true]
      obtain ⟨o1, o2, _⟩ := on_unit hq X Y t y
      rcases e_cases (I t y) (I t (y - 1)) with ⟨e, _⟩ | ⟨e, _⟩ | ⟨_, e⟩
      · exact ⟨(t, t + 1), List.mem_flatMap.mpr ⟨t, (m4 t).mpr ht, by unfold unit1 e1; rw [if_pos e]; exact List.mem_singleton.mpr rfl⟩, o1.mpr h⟩
      · exact ⟨(t + 1, t), List.mem_flatMap.mpr ⟨t, (m4 t).mpr ht, by unfold unit1 e1; rw [if_neg (fun z => absurd (e.symm.trans z) (by decide)), if_pos e]; exact List.mem_singleton.mpr rfl⟩, o2.mpr h⟩
      · exact absurd e ne
  · constructor
    · rintro ⟨x, hx, h⟩
      rw [List.any_map, List.any_eq_true] at h
      obtain ⟨p, hp, h⟩ := h
      unfold lineU at hp
      obtain ⟨t, ht, hp⟩ := List.mem_flatMap.mp hp
      unfold unit1 e1 at hp
      obtain ⟨_, _, o3, o4⟩ := on_unit hq X Y x t
      split at hp
      · rename_i e
        cases List.mem_singleton.mp hp
        exact ⟨x, t, (m4 t).mp ht, (m5 x).mp hx, b2_ne.mp (fun z => absurd (z.symm.trans e) (by decide)), o3.mp h⟩
      · split at hp
        · rename_i e
          cases List.mem_singleton.mp hp
          exact ⟨x, t, (m4 t).mp ht, (m5 x).mp hx, b2_ne.mp (fun z => absurd (z.symm.trans e) (by decide)), o4.mp h⟩
        · cases hp
    · rintro ⟨x, t, ht, hx, ne, h⟩
      refine ⟨x, (m5 x).mpr hx, ?_⟩
      rw [List.any_map, List.any_eq_true]
      obtain ⟨_, _, o3, o4⟩ := on_unit hq X Y x t
      rcases e_cases (I (x - 1) t) (I x t) with ⟨e, _⟩ | ⟨e, _⟩ | ⟨_, e⟩
      · exact ⟨(t, t + 1), List.mem_flatMap.mpr ⟨t, (m4 t).mpr ht, by unfold unit1 e1; rw [if_pos e]; exact List.mem_singleton.mpr rfl⟩, o3.mpr h⟩
      · exact ⟨(t + 1, t), List.mem_flatMap.mpr ⟨t, (m4 t).mpr ht, by unfold unit1 e1; rw [if_neg (fun z => absurd (e.symm.trans z) (by decide)), if_pos e]; exact List.mem_singleton.mpr rfl⟩, o4.mpr h⟩
      · exact absurd e ne
theorem half_of (X : Int) : (X % 2 = 0 ∧ X = 2 * (X / 2)) ∨ (X % 2 = 1 ∧ X = 2 * (X / 2) + 1) := by omega
theorem on_mixed {I : Int → Int → Bool} (h : ∀ x y, I x y = true → (0 ≤ x ∧ x < 4) ∧ (0 ≤ y ∧ y < 4)) {M : M7} (hq : (M.a, M.b, M.c, M.d) ∈ quads) {X Y : Int} (hX : -1 ≤ X ∧ X ≤ 9) (hY : -1 ≤ Y ∧ Y ≤ 9) :
    (waysOf I).any (onW M X Y) = true ↔ ¬ ∃ v, ∀ b, b ∈ around I X Y → b = v := by
  have out : ∀ x y, ¬ ((0 ≤ x ∧ x < 4) ∧ (0 ≤ y ∧ y < 4)) → I x y = false := fun x y n => by
    cases e : I x y with
    | false => rfl
    | true => exact absurd (h x y e) n
  rw [on_ways h hq, on_units hq]
  have same : (∃ v, ∀ b, b ∈ around I X Y → b = v) ↔ I (X / 2) (Y / 2) = I (X / 2) (Y / 2 + (Y % 2 - 1)) ∧ I (X / 2) (Y / 2) = I (X / 2 + (X % 2 - 1)) (Y / 2) ∧ I (X / 2) (Y / 2) = I (X / 2 + (X % 2 - 1)) (Y / 2 + (Y % 2 - 1)) := by
    constructor
    · rintro ⟨v, hv⟩
      simp only [around, List.mem_cons, List.not_mem_nil, or_false, forall_eq_or_imp, forall_eq] at hv
      obtain ⟨h1, h2, h3, h4⟩ := hv
      rw [h1, h2, h3, h4]
      exact ⟨rfl, rfl, rfl⟩
    · rintro ⟨h1, h2, h3⟩
      refine ⟨I (X / 2) (Y / 2), fun b hb => ?_⟩
      simp only [around, List.mem_cons, List.not_mem_nil, or_false] at hb
      rcases hb with rfl | rfl | rfl | rfl
      · rfl
      · exact h1.symm
      · exact h2.symm
      · exact h3.symm
  rw [same]
  obtain ⟨p, hp⟩ : ∃ p, X / 2 = p := ⟨_, rfl⟩
  obtain ⟨r, hr⟩ : ∃ r, Y / 2 = r := ⟨_, rfl⟩
  rw [hp, hr]
  rcases half_of X with ⟨mx, ex⟩ | ⟨mx, ex⟩ <;> rcases half_of Y with ⟨my, ey⟩ | ⟨my, ey⟩ <;> rw [mx, my, hp] at * <;> rw [hr] at *
  · rw [show r + (0 - 1) = r - 1 by omega, show p + (0 - 1) = p - 1 by omega]
    constructor
    · rintro (⟨t, y, ht, hy, ne, e1, e2, e3⟩ | ⟨x, t, ht, hx, ne, e1, e2, e3⟩) ⟨h1, h2, h3⟩
      · have : y = r := by omega
        subst this
        rcases (by omega : t = p ∨ t = p - 1) with e | e
        · subst e; exact ne h1
        · subst e; exact ne (h2.symm.trans h3)
      · have : x = p := by omega
        subst this
        rcases (by omega : t = r ∨ t = r - 1) with e | e
        · subst e; exact ne h2.symm
        · subst e; exact ne (h3.symm.trans h1)
    · intro n
      have pr : 0 ≤ p ∧ p ≤ 4 ∧ 0 ≤ r ∧ r ≤ 4 := by omega
      by_cases c1 : I p r = I p (r - 1)
      · by_cases c2 : I p r = I (p - 1) r
        · have c3 : I (p - 1) r ≠ I (p - 1) (r - 1) := fun z => n ⟨c1, c2, c2.trans z⟩
          have : 1 ≤ p := by
            by_cases q : 1 ≤ p
            · exact q
            · exact absurd ((out (p - 1) r (by omega)).trans (out (p - 1) (r - 1) (by omega)).symm) c3
          exact .inl ⟨p - 1, r, by omega, by omega, c3, by omega, by omega, by omega⟩
        · have : r ≤ 3 := by
            by_cases q : r ≤ 3
            · exact q
            · exact absurd ((out p r (by omega)).trans (out (p - 1) r (by omega)).symm) c2
          exact .inr ⟨p, r, by omega, by omega, fun z => c2 z.symm, by omega, by omega, by omega⟩
      · have : p ≤ 3 := by
          by_cases q : p ≤ 3
          · exact q
          · exact absurd ((out p r (by omega)).trans (out p (r - 1) (by omega)).symm) c1
        exact .inl ⟨p, r, by omega, by omega, c1, by omega, by omega, by omega⟩
  · rw [show r + (1 - 1) = r by omega, show p + (0 - 1) = p - 1 by omega]
    constructor
    · rintro (⟨t, y, ht, hy, ne, e1, e2, e3⟩ | ⟨x, t, ht, hx, ne, e1, e2, e3⟩) ⟨h1, h2, h3⟩
      · omega
      · have : x = p := by omega
        subst this
        have : t = r := by omega
        subst this
        exact ne h2.symm
    · intro n
      have c2 : I p r ≠ I (p - 1) r := fun z => n ⟨rfl, z, z⟩
      have : 0 ≤ r ∧ r ≤ 3 := by
        by_cases q : 0 ≤ r ∧ r ≤ 3
        · exact q
        · exact absurd ((out p r (by omega)).trans (out (p - 1) r (by omega)).symm) c2
      exact .inr ⟨p, r, by omega, by omega, fun z => c2 z.symm, by omega, by omega, by omega⟩
  · rw [show r + (0 - 1) = r - 1 by omega, show p + (1 - 1) = p by omega]
    constructor
    · rintro (⟨t, y, ht, hy, ne, e1, e2, e3⟩ | ⟨x, t, ht, hx, ne, e1, e2, e3⟩) ⟨h1, h2, h3⟩
      · have : y = r := by omega
        subst this
        have : t = p := by omega
        subst this
        exact ne h1
      · omega
    · intro n
      have c1 : I p r ≠ I p (r - 1) := fun z => n ⟨z, rfl, z⟩
      have : 0 ≤ p ∧ p ≤ 3 := by
        by_cases q : 0 ≤ p ∧ p ≤ 3
        · exact q
        · exact absurd ((out p r (by omega)).trans (out p (r - 1) (by omega)).symm) c1
      exact .inl ⟨p, r, by omega, by omega, c1, by omega, by omega, by omega⟩
  · rw [show r + (1 - 1) = r by omega, show p + (1 - 1) = p by omega]
    constructor
    · rintro (⟨t, y, ht, hy, ne, e1, e2, e3⟩ | ⟨x, t, ht, hx, ne, e1, e2, e3⟩) _
      · omega
      · omega
    · intro n
      exact absurd ⟨rfl, rfl, rfl⟩ n
structure Q3 where
  x : Int
  y : Int
  w : Int
def befQ (p q : Q3) : Bool := bef p.x p.y p.w q.x q.y q.w
def detQ (p q r : Q3) : Int := det3 p.x p.y p.w q.x q.y q.w r.x r.y r.w
def s6 (p q : Q3) : S6 := if befQ p q = true then ⟨p.x, p.y, p.w, q.x, q.y, q.w⟩ else ⟨q.x, q.y, q.w, p.x, p.y, p.w⟩
def abQ (r : Q3) (d : S6) : Bool := abv r.x r.y r.w d
def onQ (r : Q3) (d : S6) : Bool := onB d.x1 d.y1 d.w1 d.x2 d.y2 d.w2 r.x r.y r.w
def Sc (p q : Q3) : Prop := ∃ k : Int, 0 < k ∧ p.x = k * q.x ∧ p.y = k * q.y ∧ p.w = k * q.w
theorem Sc.refl (p : Q3) : Sc p p := ⟨1, by decide, by omega, by omega, by omega⟩
def loS (d : Int) (p : Q3) : Q3 := if p.x % d = 0 ∧ p.y % d = 0 ∧ p.w % d = 0 then ⟨p.x / d, p.y / d, p.w / d⟩ else p
theorem sc_loS {d : Int} (hd : 0 < d) {p q : Q3} (h : Sc p q) : Sc p (loS d q) := by
  unfold loS
  split
  · rename_i c
    obtain ⟨k, hk, ex, ey, ew⟩ := h
    have e1 : q.x = d * (q.x / d) := by have := Int.mul_ediv_add_emod q.x d; omega
    have e2 : q.y = d * (q.y / d) := by have := Int.mul_ediv_add_emod q.y d; omega
    have e3 : q.w = d * (q.w / d) := by have := Int.mul_ediv_add_emod q.w d; omega
    refine ⟨k * d, Int.mul_pos hk hd, ?_, ?_, ?_⟩
    · rw [ex, Int.mul_assoc]; exact congrArg (k * ·) e1
    · rw [ey, Int.mul_assoc]; exact congrArg (k * ·) e2
    · rw [ew, Int.mul_assoc]; exact congrArg (k * ·) e3
  · exact h
def loI (p : Q3) (i : Nat) : Q3 := (([2, 2, 3, 3] : List Int).take i).foldl (fun q d => loS d q) p
def loQ (p : Q3) : Q3 := loI p 4
theorem sc_loQ (p : Q3) : Sc p (loQ p) := sc_loS (by decide) (sc_loS (by decide) (sc_loS (by decide) (sc_loS (by decide) (.refl p))))
theorem Sc.wpos {p q : Q3} (h : Sc p q) (hp : 0 < p.w) : 0 < q.w := by
  obtain ⟨k, hk, _, _, ew⟩ := h
  rw [ew] at hp
  exact (sgn_scale hk).2.1.mp hp
theorem mul_le_abs {k z : Int} (hk : 0 < k) : z.natAbs ≤ (k * z).natAbs := by
  rw [Int.natAbs_mul]
  exact Nat.le_mul_of_pos_left _ (by omega)
theorem Sc.le {p q : Q3} (h : Sc p q) : q.x.natAbs ≤ p.x.natAbs ∧ q.y.natAbs ≤ p.y.natAbs ∧ q.w.natAbs ≤ p.w.natAbs := by
  obtain ⟨k, hk, ex, ey, ew⟩ := h
  rw [ex, ey, ew]
  exact ⟨mul_le_abs hk, mul_le_abs hk, mul_le_abs hk⟩
theorem cmp_scale {K a b A B : Int} (hK : 0 < K) (ea : A = K * a) (eb : B = K * b) : (A < B ↔ a < b) ∧ (A = B ↔ a = b) := by
  subst ea
  subst eb
  refine ⟨⟨fun h => Int.lt_of_mul_lt_mul_left h (Int.le_of_lt hK), fun h => Int.mul_lt_mul_of_pos_left h hK⟩, ⟨fun h => Int.eq_of_mul_eq_mul_left (by omega) h, fun h => by rw [h]⟩⟩
theorem bef_sc {p p' q q' : Q3} (h1 : Sc p p') (h2 : Sc q q') : befQ p' q' = befQ p q := by
  obtain ⟨k, hk, ex, ey, ew⟩ := h1
  obtain ⟨l, hl, fx', fy', fw⟩ := h2
  have hK := Int.mul_pos hk hl
  have cx := cmp_scale (K := k * l) (a := p'.x * q'.w) (b := q'.x * p'.w) (A := p.x * q.w) (B := q.x * p.w) hK (by rw [ex, fw]; grind) (by rw [fx', ew]; grind)
  have cy := cmp_scale (K := k * l) (a := p'.y * q'.w) (b := q'.y * p'.w) (A := p.y * q.w) (B := q.y * p.w) hK (by rw [ey, fw]; grind) (by rw [fy', ew]; grind)
  unfold befQ
  rw [Bool.eq_iff_iff, bef_true, bef_true, cx.1, cx.2, cy.1]
theorem det_sc {p p' q q' r r' : Q3} (h1 : Sc p p') (h2 : Sc q q') (h3 : Sc r r') : ∃ K : Int, 0 < K ∧ detQ p q r = K * detQ p' q' r' := by
  obtain ⟨k, hk, ex, ey, ew⟩ := h1
  obtain ⟨l, hl, gx, gy, gw⟩ := h2
  obtain ⟨n, hn, hx, hy, hw⟩ := h3
  refine ⟨k * l * n, Int.mul_pos (Int.mul_pos hk hl) hn, ?_⟩
  unfold detQ det3 lnA lnB lnC
  rw [ex, ey, ew, gx, gy, gw, hx, hy, hw]
  grind
theorem abQ_sc0 {p p' q q' r r' : Q3} (h1 : Sc p p') (h2 : Sc q q') (h3 : Sc r r') : abQ r' ⟨p'.x, p'.y, p'.w, q'.x, q'.y, q'.w⟩ = abQ r ⟨p.x, p.y, p.w, q.x, q.y, q.w⟩ := by
  obtain ⟨K, hK, eK⟩ := det_sc h1 h2 h3
  unfold detQ at eK
  have s := (sgn_scale (z := det3 p'.x p'.y p'.w q'.x q'.y q'.w r'.x r'.y r'.w) hK).1
  rw [← eK] at s
  obtain ⟨k, hk, ex, ey, ew⟩ := h1
  obtain ⟨l, hl, gx, gy, gw⟩ := h2
  obtain ⟨n, hn, hx, hy, hw⟩ := h3
  have c1 := cmp_scale (K := n * k) (a := r'.x * p'.w) (b := p'.x * r'.w) (A := r.x * p.w) (B := p.x * r.w) (Int.mul_pos hn hk) (by rw [hx, ew]; grind) (by rw [ex, hw]; grind)
  have c2 := cmp_scale (K := n * l) (a := r'.x * q'.w) (b := q'.x * r'.w) (A := r.x * q.w) (B := q.x * r.w) (Int.mul_pos hn hl) (by rw [hx, gw]; grind) (by rw [gx, hw]; grind)
  unfold abQ
  rw [Bool.eq_iff_iff, abv_iff, abv_iff]
  dsimp only
  rw [c1.1, c2.1, s]
theorem onQ_sc0 {p p' q q' r r' : Q3} (h1 : Sc p p') (h2 : Sc q q') (h3 : Sc r r') : onQ r' ⟨p'.x, p'.y, p'.w, q'.x, q'.y, q'.w⟩ = onQ r ⟨p.x, p.y, p.w, q.x, q.y, q.w⟩ := by
  obtain ⟨K, hK, eK⟩ := det_sc h1 h2 h3
  unfold detQ at eK
  have b1 := bef_sc h3 h1
  have b2 := bef_sc h2 h3
  unfold befQ at b1 b2
  unfold onQ onB
  dsimp only
  rw [eK, sgn_mul hK, b1, b2]
theorem ab_sc {p p' q q' r r' : Q3} (h1 : Sc p p') (h2 : Sc q q') (h3 : Sc r r') : abQ r' (s6 p' q') = abQ r (s6 p q) := by
  unfold s6
  rw [bef_sc h1 h2]
  split
  · exact abQ_sc0 h1 h2 h3
  · exact abQ_sc0 h2 h1 h3
theorem on_sc {p p' q q' r r' : Q3} (h1 : Sc p p') (h2 : Sc q q') (h3 : Sc r r') : onQ r' (s6 p' q') = onQ r (s6 p q) := by
  unfold s6
  rw [bef_sc h1 h2]
  split
  · exact onQ_sc0 h1 h2 h3
  · exact onQ_sc0 h2 h1 h3
def spQ (M : M7) (x y k : Int) : Q3 := ⟨M.a * x + M.b * y + M.e * k, M.c * x + M.d * y + M.f * k, M.m * k⟩
def fnQ (M : M7) (w : W4) : S6 := s6 (spQ M w.x0 w.y0 1) (spQ M w.x1 w.y1 1)
theorem bef_spots {M : M7} (hm : 0 < M.m) (w : W4) : befQ (spQ M w.x0 w.y0 1) (spQ M w.x1 w.y1 1) = true ↔ lpos (fx M (w.x1 - w.x0) (w.y1 - w.y0)) (fy M (w.x1 - w.x0) (w.y1 - w.y0)) := by
  unfold befQ spQ
  dsimp only
  rw [bef_true]
  have c1 := cmp_scale (K := M.m * 1) (a := M.a * w.x0 + M.b * w.y0 + M.e * 1) (b := M.a * w.x1 + M.b * w.y1 + M.e * 1) (by omega) (Int.mul_comm _ _) (Int.mul_comm _ _)
  have c2 := cmp_scale (K := M.m * 1) (a := M.c * w.x0 + M.d * w.y0 + M.f * 1) (b := M.c * w.x1 + M.d * w.y1 + M.f * 1) (by omega) (Int.mul_comm _ _) (Int.mul_comm _ _)
  rw [c1.1, c1.2, c2.1]
  unfold lpos
  have e1 : fx M (w.x1 - w.x0) (w.y1 - w.y0) = (M.a * w.x1 + M.b * w.y1 + M.e * 1) - (M.a * w.x0 + M.b * w.y0 + M.e * 1) := by unfold fx; grind
  have e2 : fy M (w.x1 - w.x0) (w.y1 - w.y0) = (M.c * w.x1 + M.d * w.y1 + M.f * 1) - (M.c * w.x0 + M.d * w.y0 + M.f * 1) := by unfold fy; grind
  rw [e1, e2]
  omega
theorem rs_cmp {M : M7} (hm : 0 < M.m) (X Y x y : Int) : ((spQ M X Y 2).x * (spQ M x y 1).w < (spQ M x y 1).x * (spQ M X Y 2).w ↔ fx M (X - 2 * x) (Y - 2 * y) < 0) ∧ ((spQ M x y 1).x * (spQ M X Y 2).w < (spQ M X Y 2).x * (spQ M x y 1).w ↔ 0 < fx M (X - 2 * x) (Y - 2 * y)) ∧
    ((spQ M X Y 2).y * (spQ M x y 1).w < (spQ M x y 1).y * (spQ M X Y 2).w ↔ fy M (X - 2 * x) (Y - 2 * y) < 0) ∧ ((spQ M x y 1).y * (spQ M X Y 2).w < (spQ M X Y 2).y * (spQ M x y 1).w ↔ 0 < fy M (X - 2 * x) (Y - 2 * y)) := by
  have e1 : (spQ M X Y 2).x * (spQ M x y 1).w - (spQ M x y 1).x * (spQ M X Y 2).w = M.m * fx M (X - 2 * x) (Y - 2 * y) := by unfold spQ fx; grind
  have e2 : (spQ M X Y 2).y * (spQ M x y 1).w - (spQ M x y 1).y * (spQ M X Y 2).w = M.m * fy M (X - 2 * x) (Y - 2 * y) := by unfold spQ fy; grind
  obtain ⟨a1, a2, _⟩ := sgn_scale (z := fx M (X - 2 * x) (Y - 2 * y)) hm
  obtain ⟨b1, b2, _⟩ := sgn_scale (z := fy M (X - 2 * x) (Y - 2 * y)) hm
  omega
theorem det_spots (M : M7) (X Y : Int) (w : W4) : detQ (spQ M w.x0 w.y0 1) (spQ M w.x1 w.y1 1) (spQ M X Y 2) = M.m * (fx M (w.x1 - w.x0) (w.y1 - w.y0) * fy M (X - 2 * w.x0) (Y - 2 * w.y0) - fy M (w.x1 - w.x0) (w.y1 - w.y0) * fx M (X - 2 * w.x0) (Y - 2 * w.y0)) ∧
    detQ (spQ M w.x1 w.y1 1) (spQ M w.x0 w.y0 1) (spQ M X Y 2) = M.m * -(fx M (w.x1 - w.x0) (w.y1 - w.y0) * fy M (X - 2 * w.x0) (Y - 2 * w.y0) - fy M (w.x1 - w.x0) (w.y1 - w.y0) * fx M (X - 2 * w.x0) (Y - 2 * w.y0)) := by
  unfold detQ det3 lnA lnB lnC spQ fx fy
  dsimp only
  constructor <;> grind
theorem fx_far (M : M7) (X Y : Int) (w : W4) : fx M (X - 2 * w.x1) (Y - 2 * w.y1) = fx M (X - 2 * w.x0) (Y - 2 * w.y0) - 2 * fx M (w.x1 - w.x0) (w.y1 - w.y0) ∧ fy M (X - 2 * w.x1) (Y - 2 * w.y1) = fy M (X - 2 * w.x0) (Y - 2 * w.y0) - 2 * fy M (w.x1 - w.x0) (w.y1 - w.y0) := by
  unfold fx fy
  constructor <;> grind
theorem ab_fn {M : M7} (hm : 0 < M.m) (X Y : Int) (w : W4) : abQ (spQ M X Y 2) (fnQ M w) = abW M X Y w := by
  have hb := bef_spots hm w
  obtain ⟨p1, p2, _, _⟩ := rs_cmp hm X Y w.x0 w.y0
  obtain ⟨q1, q2, _, _⟩ := rs_cmp hm X Y w.x1 w.y1
  obtain ⟨d1, d2⟩ := det_spots M X Y w
  obtain ⟨f1, _⟩ := fx_far M X Y w
  rw [f1] at q1 q2
  unfold abW abQ fnQ s6
  unfold detQ at d1 d2
  by_cases c : befQ (spQ M w.x0 w.y0 1) (spQ M w.x1 w.y1 1) = true
  · rw [if_pos c, Bool.eq_iff_iff, abv_iff]
    have l := hb.mp c
    unfold lpos at l
    dsimp only
    rw [p1, q1, d1, (sgn_scale hm).1]
    unfold ab0
    generalize fx M (w.x1 - w.x0) (w.y1 - w.y0) = α at *
    generalize fy M (w.x1 - w.x0) (w.y1 - w.y0) = β at *
    generalize fx M (X - 2 * w.x0) (Y - 2 * w.y0) = u at *
    generalize fy M (X - 2 * w.x0) (Y - 2 * w.y0) = v at *
    by_cases a : 0 < α
    · rw [if_pos a, decide_eq_true_iff]
      generalize α * v - β * u = C
      omega
    · rw [if_neg a, if_neg (by omega)]
      simp only [Bool.false_eq_true, iff_false]
      omega
  · rw [if_neg c, Bool.eq_iff_iff, abv_iff]
    have l := fun z => c (hb.mpr z)
    unfold lpos at l
    dsimp only
    rw [p1, q1, d2, (sgn_scale hm).1]
    unfold ab0
    generalize fx M (w.x1 - w.x0) (w.y1 - w.y0) = α at *
    generalize fy M (w.x1 - w.x0) (w.y1 - w.y0) = β at *
    generalize fx M (X - 2 * w.x0) (Y - 2 * w.y0) = u at *
    generalize fy M (X - 2 * w.x0) (Y - 2 * w.y0) = v at *
    rw [if_neg (fun z => l (.inl z))]
    by_cases a : α < 0
    · rw [if_pos a, decide_eq_true_iff]
      generalize α * v - β * u = C
      omega
    · rw [if_neg a]
      simp only [Bool.false_eq_true, iff_false]
      omega
theorem bef_far {M : M7} (hm : 0 < M.m) (X Y x y : Int) : (befQ (spQ M X Y 2) (spQ M x y 1) = true ↔ lpos (-fx M (X - 2 * x) (Y - 2 * y)) (-fy M (X - 2 * x) (Y - 2 * y))) ∧ (befQ (spQ M x y 1) (spQ M X Y 2) = true ↔ lpos (fx M (X - 2 * x) (Y - 2 * y)) (fy M (X - 2 * x) (Y - 2 * y))) := by
  obtain ⟨p1, p2, p3, p4⟩ := rs_cmp hm X Y x y
  unfold befQ lpos
  rw [bef_true, bef_true]
  omega
theorem on_fn {M : M7} (hm : 0 < M.m) (X Y : Int) (w : W4) : onQ (spQ M X Y 2) (fnQ M w) = onW M X Y w := by
  have hb := bef_spots hm w
  obtain ⟨p1, p2⟩ := bef_far hm X Y w.x0 w.y0
  obtain ⟨q1, q2⟩ := bef_far hm X Y w.x1 w.y1
  obtain ⟨d1, d2⟩ := det_spots M X Y w
  obtain ⟨f1, f2⟩ := fx_far M X Y w
  rw [f1, f2] at q1 q2
  unfold onW onQ fnQ s6
  unfold detQ at d1 d2
  unfold befQ at p1 p2 q1 q2
  by_cases c : befQ (spQ M w.x0 w.y0 1) (spQ M w.x1 w.y1 1) = true
  · rw [if_pos c]
    have l := hb.mp c
    dsimp only
    unfold onB on0
    rw [d1, sgn_mul hm, if_pos l]
    simp only [sgn_eq_zero]
    generalize fx M (w.x1 - w.x0) (w.y1 - w.y0) = α at *
    generalize fy M (w.x1 - w.x0) (w.y1 - w.y0) = β at *
    generalize fx M (X - 2 * w.x0) (Y - 2 * w.y0) = u at *
    generalize fy M (X - 2 * w.x0) (Y - 2 * w.y0) = v at *
    by_cases z : α * v - β * u = 0
    · rw [if_pos z, decide_eq_true z, Bool.true_and, Bool.eq_iff_iff, Bool.and_eq_true, Bool.not_eq_true', Bool.not_eq_true', ← Bool.not_eq_true, ← Bool.not_eq_true, p1, q2, decide_eq_true_iff]
    · rw [if_neg z, decide_eq_false z, Bool.false_and]
  · rw [if_neg c]
    have l := fun z => c (hb.mpr z)
    dsimp only
    unfold onB on0
    rw [d2, sgn_mul hm, if_neg l]
    simp only [sgn_eq_zero]
    generalize fx M (w.x1 - w.x0) (w.y1 - w.y0) = α at *
    generalize fy M (w.x1 - w.x0) (w.y1 - w.y0) = β at *
    generalize fx M (X - 2 * w.x0) (Y - 2 * w.y0) = u at *
    generalize fy M (X - 2 * w.x0) (Y - 2 * w.y0) = v at *
    rw [show -(u - 2 * α) = 2 * α - u by omega, show -(v - 2 * β) = 2 * β - v by omega] at q1
    by_cases z : α * v - β * u = 0
    · rw [if_pos (by omega), decide_eq_true z, Bool.true_and, Bool.eq_iff_iff, Bool.and_eq_true, Bool.not_eq_true', Bool.not_eq_true', ← Bool.not_eq_true, ← Bool.not_eq_true, q1, p2, decide_eq_true_iff]
    · rw [if_neg (by omega), decide_eq_false z, Bool.false_and]
def dP (d : S6) : Q3 := ⟨d.x1, d.y1, d.w1⟩
def dQ (d : S6) : Q3 := ⟨d.x2, d.y2, d.w2⟩
def srt (d : S6) : S6 := s6 (dP d) (dQ d)
def mkD (p q : Q3) : S6 := ⟨p.x, p.y, p.w, q.x, q.y, q.w⟩
def lfQ (M : M7) (w : W4) : S6 := mkD (loQ (spQ M w.x0 w.y0 1)) (loQ (spQ M w.x1 w.y1 1))
theorem ab_lf {M : M7} (hm : 0 < M.m) (X Y : Int) (w : W4) : abQ (loQ (spQ M X Y 2)) (srt (lfQ M w)) = abW M X Y w := by
  rw [← ab_fn hm X Y w]
  exact ab_sc (sc_loQ _) (sc_loQ _) (sc_loQ _)
theorem on_lf {M : M7} (hm : 0 < M.m) (X Y : Int) (w : W4) : onQ (loQ (spQ M X Y 2)) (srt (lfQ M w)) = onW M X Y w := by
  rw [← on_fn hm X Y w]
  exact on_sc (sc_loQ _) (sc_loQ _) (sc_loQ _)
def whV (ds : List S6) (r : Q3) : Int := if ds.any (fun d => onQ r (srt d)) = true then 0 else if cntAb (ds.map srt) r.x r.y r.w % 2 = 1 then 1 else -1
def allA (I : Int → Int → Bool) (X Y : Int) : Bool := (around I X Y).all id
def anyA (I : Int → Int → Bool) (X Y : Int) : Bool := (around I X Y).any id
def dueV (I : Int → Int → Bool) (X Y : Int) : Int := if allA I X Y = true then 1 else b2 (anyA I X Y) - 1
theorem cnt_sum {α : Type} (f : α → S6) (r : Q3) : ∀ l : List α, ((cntAb (l.map f) r.x r.y r.w : Nat) : Int) = sumI (fun w => b2 (abQ r (f w))) l
  | [] => rfl
  | a :: l => by
    have ih := cnt_sum f r l
    unfold cntAb at ih ⊢
    rw [List.map_cons, sumI, ← ih]
    unfold abQ b2
    cases e : abv r.x r.y r.w (f a) with
    | true => rw [List.filter_cons_of_pos e, List.length_cons, if_pos rfl]; omega
    | false => rw [List.filter_cons_of_neg (by rw [e]; decide), if_neg (by decide)]; omega
theorem any_perm {α : Type} (f : α → Bool) {l r : List α} (h : l.Perm r) : l.any f = r.any f := by
  rw [Bool.eq_iff_iff, List.any_eq_true, List.any_eq_true]
  constructor
  · rintro ⟨w, hw, hf⟩
    exact ⟨w, h.mem_iff.mp hw, hf⟩
  · rintro ⟨w, hw, hf⟩
    exact ⟨w, h.mem_iff.mpr hw, hf⟩
theorem any_map' {α β : Type} (f : β → Bool) (g : α → β) (l : List α) : (l.map g).any f = l.any fun a => f (g a) := by
  rw [List.any_map]
  rfl
theorem MOk.mp {M : M7} (h : MOk M) : 0 < M.m := by have := h.m; omega
theorem where_due {I : Int → Int → Bool} (h : ∀ x y, I x y = true → (0 ≤ x ∧ x < 4) ∧ (0 ≤ y ∧ y < 4)) {M : M7} (hM : MOk M) {X Y : Int} (hX : -1 ≤ X ∧ X ≤ 9) (hY : -1 ≤ Y ∧ Y ≤ 9) {ws : List W4} (hw : ws.Perm (waysOf I)) :
    whV (ws.map (lfQ M)) (loQ (spQ M X Y 2)) = dueV I X Y := by
  have o := on_mixed h hM.q hX hY
  have eo : (ws.map (lfQ M)).any (fun d => onQ (loQ (spQ M X Y 2)) (srt d)) = (waysOf I).any (onW M X Y) := by
    rw [any_map', ← any_perm _ hw]
    congr 1
    funext w
    exact on_lf hM.mp X Y w
  have ec : ((cntAb ((ws.map (lfQ M)).map srt) (loQ (spQ M X Y 2)).x (loQ (spQ M X Y 2)).y (loQ (spQ M X Y 2)).w : Nat) : Int) = sumI (fun w => b2 (abW M X Y w)) (waysOf I) := by
    rw [List.map_map, cnt_sum, ← sumI_perm _ hw]
    refine sumI_congr _ fun w _ => ?_
    show b2 (abQ _ (srt (lfQ M w))) = _
    rw [ab_lf hM.mp]
  unfold whV dueV
  rw [eo]
  by_cases c : ∃ v, ∀ b, b ∈ around I X Y → b = v
  · rw [if_neg (fun z => (o.mp z) c)]
    obtain ⟨v, hv⟩ := c
    have od := odd_above h hM.q hX hY hv
    rw [← ec] at od
    have a1 : allA I X Y = v := by
      unfold allA
      cases v with
      | true => exact List.all_eq_true.mpr fun b hb => hv b hb
      | false =>
        have := hv _ (List.mem_cons_self ..)
        unfold around
        rw [List.all_cons, this]
        rfl
    have a2 : anyA I X Y = v := by
      unfold anyA
      cases v with
      | true => exact List.any_eq_true.mpr ⟨_, List.mem_cons_self .., hv _ (List.mem_cons_self ..)⟩
      | false =>
        rw [← Bool.not_eq_true, List.any_eq_true]
        rintro ⟨b, hb, e⟩
        rw [hv b hb] at e
        cases e
    rw [a1, a2]
    cases v with
    | true =>
      rw [show b2 true = 1 from rfl] at od
      rw [if_pos (by omega), if_pos rfl]
    | false =>
      rw [show b2 false = 0 from rfl] at od
      rw [if_neg (by omega), if_neg (by decide)]
      rfl
  · rw [if_pos (o.mpr c)]
    have a1 : ¬ allA I X Y = true := fun z => c ⟨true, fun b hb => List.all_eq_true.mp z b hb⟩
    have a2 : anyA I X Y = true := by
      cases e : anyA I X Y with
      | true => rfl
      | false => exact absurd ⟨false, fun b hb => by
          cases eb : b with
          | false => rfl
          | true =>
            have : anyA I X Y = true := List.any_eq_true.mpr ⟨b, hb, eb⟩
            rw [e] at this
            cases this⟩ c
    rw [if_neg a1, a2]
    rfl
theorem len_le {α β : Type} {f g : α → List β} : ∀ l : List α, (∀ a, a ∈ l → (f a).length ≤ (g a).length) → (l.flatMap f).length ≤ (l.flatMap g).length
  | [], _ => Nat.le_refl _
  | a :: l, h => by
    rw [List.flatMap_cons, List.flatMap_cons, List.length_append, List.length_append]
    exact Nat.add_le_add (h a (List.mem_cons_self ..)) (len_le l fun b hb => h b (List.mem_cons_of_mem _ hb))
theorem steps_len (x y dx dy : Int) : ∀ n : Nat, (stepsN x y dx dy n).length = n := by
  intro n
  induction n generalizing x y with
  | zero => rfl
  | succ n ih => rw [stepsN, List.length_cons, ih]
theorem flat_le {α β : Type} {f : α → List β} {k : Nat} : ∀ l : List α, (∀ a, a ∈ l → (f a).length ≤ k) → (l.flatMap f).length ≤ l.length * k
  | [], _ => by simp
  | a :: l, h => by
    rw [List.flatMap_cons, List.length_append, List.length_cons, Nat.succ_mul]
    have h1 := h a (List.mem_cons_self ..)
    have h2 := flat_le l fun b hb => h b (List.mem_cons_of_mem _ hb)
    omega
theorem lineU_len (L R : Int → Bool) : (lineU L R).length ≤ 4 := by
  unfold lineU
  refine Nat.le_trans (flat_le (k := 1) _ fun t _ => ?_) (Nat.le_refl _)
  unfold unit1
  split
  · exact Nat.le_refl _
  · split
    · exact Nat.le_refl _
    · exact Nat.zero_le _
theorem ways_len {I : Int → Int → Bool} (h : ∀ x y, I x y = true → (0 ≤ x ∧ x < 4) ∧ (0 ≤ y ∧ y < 4)) : (waysOf I).length ≤ 40 := by
  have u : (unitsOf I).length ≤ 40 := by
    unfold unitsOf
    rw [List.length_append]
    have a := flat_le (k := 4) (f := fun y => (lineU (fun t => I t y) (fun t => I t (y - 1))).map (embH y)) fives fun y _ => by rw [List.length_map]; exact lineU_len _ _
    have b := flat_le (k := 4) (f := fun x => (lineU (fun t => I (x - 1) t) (fun t => I x t)).map (embV x)) fives fun y _ => by rw [List.length_map]; exact lineU_len _ _
    have c : fives.length = 5 := rfl
    rw [c] at a b
    omega
  rw [← (units_perm h).length_eq] at u
  refine Nat.le_trans (len_le _ fun w hw => ?_) u
  unfold wayL expL
  split
  · rw [steps_len]
    exact far_ge I _ _ _ _ 6 1
  · exact Nat.le_refl _
theorem quad_det {a b c d : Int} (h : (a, b, c, d) ∈ quads) : 0 < a * d - b * c := by
  have : (quads.all fun q => decide (0 < q.1 * q.2.2.2 - q.2.1 * q.2.2.1)) = true := by decide
  exact of_decide_eq_true (List.all_eq_true.mp this _ h)
theorem way_apart {I : Int → Int → Bool} {w : W4} (hw : w ∈ waysOf I) : w.x1 - w.x0 ≠ 0 ∨ w.y1 - w.y0 ≠ 0 := by
  unfold waysOf at hw
  obtain ⟨u, hu, hw⟩ := List.mem_flatMap.mp hw
  have hd := (idx_dirs hu).1
  unfold wayL at hw
  split at hw
  · rw [List.mem_singleton] at hw
    subst hw
    have g := far_ge I u.x0 u.y0 u.x1 u.y1 6 1
    generalize farN I u.x0 u.y0 u.x1 u.y1 6 1 = n at *
    dsimp only
    unfold dirs at hd
    simp only [List.mem_cons, List.not_mem_nil, or_false, Prod.mk.injEq] at hd
    rcases hd with ⟨e1, e2⟩ | ⟨e1, e2⟩ | ⟨e1, e2⟩ | ⟨e1, e2⟩ <;> rw [e1, e2] <;> omega
  · cases hw
theorem lin_zero {a b c d x y : Int} (hD : 0 < a * d - b * c) (h1 : a * x + b * y = 0) (h2 : c * x + d * y = 0) : x = 0 ∧ y = 0 := by
  have e1 : (a * d - b * c) * x = d * (a * x + b * y) - b * (c * x + d * y) := by grind
  have e2 : (a * d - b * c) * y = a * (c * x + d * y) - c * (a * x + b * y) := by grind
  rw [h1, h2] at e1 e2
  simp only [Int.mul_zero, Int.sub_zero] at e1 e2
  rcases Int.mul_eq_zero.mp e1 with z | z
  · omega
  · rcases Int.mul_eq_zero.mp e2 with z' | z'
    · omega
    · exact ⟨z, z'⟩
theorem lf_apart {I : Int → Int → Bool} {M : M7} (hM : MOk M) {w : W4} (hw : w ∈ waysOf I) : ¬ ((lfQ M w).x1 = (lfQ M w).x2 ∧ (lfQ M w).y1 = (lfQ M w).y2 ∧ (lfQ M w).w1 = (lfQ M w).w2) := by
  rintro ⟨ex, ey, ew⟩
  unfold lfQ mkD at ex ey ew
  dsimp only at ex ey ew
  obtain ⟨k, hk, kx, ky, kw⟩ := sc_loQ (spQ M w.x0 w.y0 1)
  obtain ⟨l, hl, lx, ly, lw⟩ := sc_loQ (spQ M w.x1 w.y1 1)
  have wp := (sc_loQ (spQ M w.x0 w.y0 1)).wpos (by unfold spQ; have := hM.mp; simp only; omega)
  rw [← ex] at lx
  rw [← ey] at ly
  rw [← ew] at lw
  have kl : k = l := by
    have : (spQ M w.x0 w.y0 1).w = (spQ M w.x1 w.y1 1).w := rfl
    rw [kw, lw] at this
    exact Int.eq_of_mul_eq_mul_right (by omega) this
  subst kl
  have h1 := kx.trans lx.symm
  have h2 := ky.trans ly.symm
  unfold spQ at h1 h2
  dsimp only at h1 h2
  have := lin_zero (x := w.x1 - w.x0) (y := w.y1 - w.y0) (quad_det hM.q) (by rw [Int.mul_sub, Int.mul_sub]; omega) (by rw [Int.mul_sub, Int.mul_sub]; omega)
  rcases way_apart hw with z | z <;> omega
structure FrD (D N t b : Int) : Prop where
  pos : 0 < b
  one : G t b = 1
  eq : t * D = N * b
theorem frd_fr {D N t b : Int} (hb : 0 < b) (e : t * D = N * b) : FrD D N (frT t b) (frB t b) := by
  have nb : b ≠ 0 := by omega
  refine ⟨frB_pos nb, G_fr nb, ?_⟩
  have c := cross t b nb
  refine Int.eq_of_mul_eq_mul_right nb ?_
  calc frT t b * D * b = (frT t b * b) * D := by grind
    _ = (t * D) * frB t b := by rw [c]; grind
    _ = N * frB t b * b := by rw [e]; grind
theorem FrD.plus {D N N' t b t' b' : Int} (h : FrD D N t b) (h' : FrD D N' t' b') : FrD D (N + N') (frT (t * b' + t' * b) (b * b')) (frB (t * b' + t' * b) (b * b')) := by
  refine frd_fr (Int.mul_pos h.pos h'.pos) ?_
  have e := h.eq
  have e' := h'.eq
  calc (t * b' + t' * b) * D = (t * D) * b' + (t' * D) * b := by grind
    _ = (N + N') * (b * b') := by rw [e, e']; grind
theorem FrD.half {D N t b : Int} (h : FrD D N t b) : FrD (2 * D) N (frT t (b * 2)) (frB t (b * 2)) := by
  refine frd_fr (by have := h.pos; omega) ?_
  have e := h.eq
  calc t * (2 * D) = 2 * (t * D) := by grind
    _ = N * (b * 2) := by rw [e]; grind
theorem gcd_dvd_of {t b D N : Int} (h : G t b = 1) (e : t * D = N * b) : b ∣ D := by
  have g : Nat.Coprime b.natAbs t.natAbs := by
    unfold G at h
    have : Int.gcd t b = 1 := by omega
    rw [Int.gcd_eq_natAbs_gcd_natAbs, Nat.gcd_comm] at this
    exact this
  have d : b.natAbs ∣ t.natAbs * D.natAbs := ⟨N.natAbs, by rw [← Int.natAbs_mul, e, Int.natAbs_mul, Nat.mul_comm]⟩
  exact Int.natAbs_dvd_natAbs.mp (g.dvd_of_dvd_mul_left d)
theorem FrD.le {D N t b : Int} (h : FrD D N t b) (hD : 0 < D) : b.natAbs ≤ D.natAbs ∧ t.natAbs ≤ N.natAbs := by
  obtain ⟨k, hk⟩ := gcd_dvd_of h.one h.eq
  have hb := h.pos
  have kp : 0 < k := by
    rw [hk] at hD
    exact (sgn_scale hb).2.1.mp hD
  have e : t * k = N := by
    have := h.eq
    rw [hk] at this
    refine Int.eq_of_mul_eq_mul_right (show b ≠ 0 by omega) ?_
    rw [← this]
    grind
  constructor
  · rw [hk, Int.natAbs_mul]
    exact Nat.le_mul_of_pos_right _ (by omega)
  · rw [← e, Int.natAbs_mul]
    exact Nat.le_mul_of_pos_right _ (by omega)
theorem FrD.uniq {D N t b t' b' : Int} (hD : 0 < D) (h : FrD D N t b) (h' : FrD D N t' b') : t = t' ∧ b = b' := by
  have hb := h.pos
  have hb' := h'.pos
  have e : t * b' = t' * b := by
    refine Int.eq_of_mul_eq_mul_right (show D ≠ 0 by omega) ?_
    have e1 := h.eq
    have e2 := h'.eq
    calc t * b' * D = (t * D) * b' := by grind
      _ = (t' * D) * b := by rw [e1, e2]; grind
      _ = t' * b * D := by grind
  have d1 : b ∣ b' := gcd_dvd_of h.one e
  have d2 : b' ∣ b := gcd_dvd_of h'.one e.symm
  have eb : b = b' := Int.dvd_antisymm (by omega) (by omega) d1 d2
  subst eb
  exact ⟨Int.eq_of_mul_eq_mul_right (by omega) e, rfl⟩
theorem FrD.mono {D N t b k : Int} (hk : k ≠ 0) (h : FrD (k * D) (k * N) t b) : FrD D N t b := by
  refine ⟨h.pos, h.one, ?_⟩
  have e := h.eq
  refine Int.eq_of_mul_eq_mul_left hk ?_
  calc k * (t * D) = t * (k * D) := by grind
    _ = k * (N * b) := by rw [e]; grind
def crS (d : S6) : Int := d.x1 * d.y2 - d.x2 * d.y1
def crB (d : S6) : Int := d.w1 * d.w2
theorem lf_w {M : M7} (hm : 0 < M.m) (w : W4) : 0 < (lfQ M w).w1 ∧ 0 < (lfQ M w).w2 := by
  unfold lfQ mkD
  dsimp only
  exact ⟨(sc_loQ _).wpos (by unfold spQ; simp only; omega), (sc_loQ _).wpos (by unfold spQ; simp only; omega)⟩
theorem cr_lf {M : M7} (hm : 0 < M.m) (w : W4) : crS (lfQ M w) * (M.m * M.m) = crW M w * crB (lfQ M w) := by
  obtain ⟨k, hk, kx, ky, kw⟩ := sc_loQ (spQ M w.x0 w.y0 1)
  obtain ⟨l, hl, lx, ly, lw⟩ := sc_loQ (spQ M w.x1 w.y1 1)
  have e : crW M w = (spQ M w.x0 w.y0 1).x * (spQ M w.x1 w.y1 1).y - (spQ M w.x1 w.y1 1).x * (spQ M w.x0 w.y0 1).y := by
    unfold crW spQ fx fy
    simp only [Int.mul_one]
  have m1 : M.m = (spQ M w.x0 w.y0 1).w := by unfold spQ; simp only; omega
  have m2 : M.m = (spQ M w.x1 w.y1 1).w := by unfold spQ; simp only; omega
  have mm : M.m * M.m = (k * (loQ (spQ M w.x0 w.y0 1)).w) * (l * (loQ (spQ M w.x1 w.y1 1)).w) := by rw [← kw, ← lw, ← m1, ← m2]
  rw [e, mm, kx, ky, lx, ly]
  unfold crS crB lfQ mkD
  dsimp only
  grind
structure T2 where
  t : Int
  b : Int
def arS (d : Int) (p : T2) : T2 := if p.t % d = 0 ∧ p.b % d = 0 then ⟨p.t / d, p.b / d⟩ else p
def arI (p : T2) (i : Nat) : T2 := (([2, 2, 3, 3] : List Int).take i).foldl (fun q d => arS d q) p
def arQ (p : T2) : T2 := arI p 4
theorem arS_eq {d : Int} (hd : 0 < d) {D N : Int} {p : T2} (hb : 0 < p.b) (e : p.t * D = N * p.b) : 0 < (arS d p).b ∧ (arS d p).t * D = N * (arS d p).b := by
  unfold arS
  split
  · rename_i c
    have e1 : p.t = d * (p.t / d) := by have := Int.mul_ediv_add_emod p.t d; omega
    have e2 : p.b = d * (p.b / d) := by have := Int.mul_ediv_add_emod p.b d; omega
    dsimp only
    generalize p.t / d = t at *
    generalize p.b / d = b at *
    rw [e1, e2] at e
    refine ⟨(sgn_scale hd).2.1.mp (by rw [← e2]; exact hb), ?_⟩
    refine Int.eq_of_mul_eq_mul_left (show d ≠ 0 by omega) ?_
    calc d * (t * D) = d * t * D := by grind
      _ = d * (N * b) := by rw [e]; grind
  · exact ⟨hb, e⟩
theorem ar_low {t b : Int} (hb : b = 1 ∨ b = 4 ∨ b = 9 ∨ b = 36) : ¬ ((arQ ⟨t, b⟩).t % 2 = 0 ∧ (arQ ⟨t, b⟩).b % 2 = 0) ∧ ¬ ((arQ ⟨t, b⟩).t % 3 = 0 ∧ (arQ ⟨t, b⟩).b % 3 = 0) ∧ (arQ ⟨t, b⟩).b ∣ 36 := by
  unfold arQ arI
  simp only [List.take, List.foldl, arS]
  rcases hb with rfl | rfl | rfl | rfl
  · simp
  · by_cases h2 : t % 2 = 0
    · by_cases h4 : t / 2 % 2 = 0
      · simp [h2, h4]
      · simp [h2, h4]
    · simp [h2]
  · by_cases h3 : t % 3 = 0
    · by_cases h9 : t / 3 % 3 = 0
      · simp [h3, h9]
      · simp [h3, h9]
    · simp [h3]
  · have key : ∀ u c : Int, (c = 9 ∨ (u % 2 ≠ 0 ∧ (c = 18 ∨ c = 36))) → ∀ q : T2, q = (if (if u % 3 = 0 ∧ c % 3 = 0 then (⟨u / 3, c / 3⟩ : T2) else ⟨u, c⟩).t % 3 = 0 ∧ (if u % 3 = 0 ∧ c % 3 = 0 then (⟨u / 3, c / 3⟩ : T2) else ⟨u, c⟩).b % 3 = 0 then (⟨(if u % 3 = 0 ∧ c % 3 = 0 then (⟨u / 3, c / 3⟩ : T2) else ⟨u, c⟩).t / 3, (if u % 3 = 0 ∧ c % 3 = 0 then (⟨u / 3, c / 3⟩ : T2) else ⟨u, c⟩).b / 3⟩ : T2) else (if u % 3 = 0 ∧ c % 3 = 0 then (⟨u / 3, c / 3⟩ : T2) else ⟨u, c⟩)) →
        ¬ (q.t % 2 = 0 ∧ q.b % 2 = 0) ∧ ¬ (q.t % 3 = 0 ∧ q.b % 3 = 0) ∧ q.b ∣ 36 := by
      rintro u c hc q rfl
      by_cases h3 : u % 3 = 0
      · by_cases h9 : u / 3 % 3 = 0
        · rcases hc with rfl | ⟨h, rfl | rfl⟩ <;> simp [h3, h9] <;> omega
        · rcases hc with rfl | ⟨h, rfl | rfl⟩ <;> simp [h3, h9] <;> omega
      · rcases hc with rfl | ⟨h, rfl | rfl⟩ <;> simp [h3] <;> omega
    by_cases h2 : t % 2 = 0
    · by_cases h4 : t / 2 % 2 = 0
      · exact key (t / 2 / 2) 9 (.inl rfl) _ (by simp [h2, h4])
      · exact key (t / 2) 18 (.inr ⟨h4, .inl rfl⟩) _ (by simp [h2, h4])
    · exact key t 36 (.inr ⟨h2, .inr rfl⟩) _ (by simp [h2])
theorem gcd36 {t b : Int} (h2 : ¬ (t % 2 = 0 ∧ b % 2 = 0)) (h3 : ¬ (t % 3 = 0 ∧ b % 3 = 0)) (h : b ∣ 36) : G t b = 1 := by
  unfold G
  have dt : ((Int.gcd t b : Nat) : Int) ∣ t := Int.gcd_dvd_left ..
  have db : ((Int.gcd t b : Nat) : Int) ∣ b := Int.gcd_dvd_right ..
  have d36 : ((Int.gcd t b : Nat) : Int) ∣ 36 := Int.dvd_trans db h
  generalize Int.gcd t b = g at *
  have n36 : g ∣ 36 := by exact Int.natCast_dvd_natCast.mp d36
  have le : g ≤ 36 := Nat.le_of_dvd (by decide) n36
  have c2 : ¬ 2 ∣ g := fun z => h2 ⟨Int.emod_eq_zero_of_dvd (Int.dvd_trans (Int.natCast_dvd_natCast.mpr z) dt), Int.emod_eq_zero_of_dvd (Int.dvd_trans (Int.natCast_dvd_natCast.mpr z) db)⟩
  have c3 : ¬ 3 ∣ g := fun z => h3 ⟨Int.emod_eq_zero_of_dvd (Int.dvd_trans (Int.natCast_dvd_natCast.mpr z) dt), Int.emod_eq_zero_of_dvd (Int.dvd_trans (Int.natCast_dvd_natCast.mpr z) db)⟩
  have all : ∀ g : Fin 37, g.val ∣ 36 → ¬ 2 ∣ g.val → ¬ 3 ∣ g.val → g.val = 1 := by decide
  have := all ⟨g, by omega⟩ n36 c2 c3
  dsimp only at this
  rw [this]
  rfl
theorem frd_ar {N D : Int} (hD : D = 1 ∨ D = 4 ∨ D = 9 ∨ D = 36) : FrD D N (arQ ⟨N, D⟩).t (arQ ⟨N, D⟩).b := by
  obtain ⟨l2, l3, l36⟩ := ar_low (t := N) hD
  have s0 : 0 < (⟨N, D⟩ : T2).b ∧ (⟨N, D⟩ : T2).t * D = N * (⟨N, D⟩ : T2).b := ⟨by simp only; omega, rfl⟩
  have s1 := arS_eq (d := 2) (by decide) s0.1 s0.2
  have s2 := arS_eq (d := 2) (by decide) s1.1 s1.2
  have s3 := arS_eq (d := 3) (by decide) s2.1 s2.2
  have s4 := arS_eq (d := 3) (by decide) s3.1 s3.2
  exact ⟨s4.1, gcd36 l2 l3 l36, s4.2⟩
theorem MOk.mm {M : M7} (h : MOk M) : M.m * M.m = 1 ∨ M.m * M.m = 4 ∨ M.m * M.m = 9 ∨ M.m * M.m = 36 := by
  rcases h.m with e | e | e | e <;> rw [e] <;> decide
def inB (bs : List Bool) (x y : Int) : Bool := decide (0 ≤ x ∧ x < 4) && (decide (0 ≤ y ∧ y < 4) && bs.getD (4 * y + x).toNat false)
theorem inB_in (bs : List Bool) : ∀ x y, inB bs x y = true → (0 ≤ x ∧ x < 4) ∧ (0 ≤ y ∧ y < 4) := fun x y h => by
  unfold inB at h
  rw [Bool.and_eq_true, Bool.and_eq_true] at h
  exact ⟨of_decide_eq_true h.1, of_decide_eq_true h.2.1⟩
theorem held_sum : ∀ bs : List Bool, ((bs.filter id).length : Int) = sumI b2 bs
  | [] => rfl
  | true :: bs => by rw [List.filter_cons_of_pos rfl, List.length_cons, sumI, ← held_sum bs]; simp [b2]; try omega
  | false :: bs => by rw [List.filter_cons_of_neg (by decide), sumI, ← held_sum bs]; simp [b2]; try omega
theorem cells_held {bs : List Bool} (h : bs.length = 16) : cells (inB bs) = ((bs.filter id).length : Int) := by
  rw [held_sum]
  match bs, h with
  | [b0, b1, b2', b3, b4, b5, b6, b7, b8, b9, b10, b11, b12, b13, b14, b15], _ =>
    simp [cells, sumI, inB]
    omega
theorem land_area {bs : List Bool} (hb : bs.length = 16) {M : M7} (hM : MOk M) {ws : List W4} (hw : ws.Perm (waysOf (inB bs))) {t b : Int} (h : FrD (2 * (M.m * M.m)) (sumI (crW M) ws) t b) :
    t = (arQ ⟨((bs.filter id).length : Int) * (M.a * M.d - M.b * M.c), M.m * M.m⟩).t ∧ b = (arQ ⟨((bs.filter id).length : Int) * (M.a * M.d - M.b * M.c), M.m * M.m⟩).b := by
  rw [sumI_perm _ hw, area_ways (inB_in bs), cells_held hb, Int.mul_comm (M.a * M.d - M.b * M.c)] at h
  have h' := FrD.mono (by decide) h
  exact FrD.uniq (by rcases hM.mm with e | e | e | e <;> omega) h' (frd_ar hM.mm)
theorem sm_in {I : Int → Int → Bool} (h : ∀ x y, I x y = true → (0 ≤ x ∧ x < 4) ∧ (0 ≤ y ∧ y < 4)) {x y : Int} (s : smB I x y = true) : (0 ≤ x ∧ x ≤ 4) ∧ (0 ≤ y ∧ y ≤ 4) := by
  have key : I (x - 1) (y - 1) = true ∨ I x (y - 1) = true ∨ I (x - 1) y = true ∨ I x y = true := by
    unfold smB eH eV at s
    generalize I (x - 1) (y - 1) = a, I x (y - 1) = b, I (x - 1) y = c, I x y = d at *
    revert a b c d
    decide
  rcases key with k | k | k | k <;> have := h _ _ k <;> omega
theorem far_true {I : Int → Int → Bool} {x y dx dy : Int} {f : Nat} (hf : f ≤ 6) (s : smB I (x + f * dx) (y + f * dy) = true) : farN I x y dx dy (7 - f) f = farN I x y dx dy (7 - (f + 1)) (f + 1) := by
  rw [show 7 - f = (7 - (f + 1)) + 1 by omega, farN, if_pos s]
theorem far_false {I : Int → Int → Bool} {x y dx dy : Int} {f : Nat} (hf : f ≤ 6) (s : smB I (x + f * dx) (y + f * dy) = false) : farN I x y dx dy (7 - f) f = f := by
  rw [show 7 - f = (7 - (f + 1)) + 1 by omega, farN, if_neg (by rw [s]; decide)]
theorem far_lt {I : Int → Int → Bool} (h : ∀ x y, I x y = true → (0 ≤ x ∧ x < 4) ∧ (0 ≤ y ∧ y < 4)) {x y : Int} {d : Int × Int} {f : Nat} (hd : d ∈ dirs) (hx : 0 ≤ x ∧ x ≤ 4) (hy : 0 ≤ y ∧ y ≤ 4) (s : smB I (x + f * d.1) (y + f * d.2) = true) : f ≤ 4 := by
  have := sm_in h s
  unfold dirs at hd
  simp only [List.mem_cons, List.not_mem_nil, or_false] at hd
  rcases hd with rfl | rfl | rfl | rfl <;> simp only at this <;> omega
def prs (ns : List Int) : List Int := (List.range (ns.length / 2)).map fun j => ns.getD (2 * j) 0 + ns.getD (2 * j + 1) 0
def nxS (ns : List Int) : List Int := prs ns ++ ns.drop (2 * (ns.length / 2))
theorem nxS_two (a b : Int) (r : List Int) : nxS (a :: b :: r) = (a + b) :: nxS r := by
  unfold nxS prs
  have e : (a :: b :: r).length / 2 = r.length / 2 + 1 := by simp only [List.length_cons]; omega
  rw [e, List.range_succ_eq_map, List.map_cons, List.map_map, List.cons_append, show 2 * (r.length / 2 + 1) = 2 * (r.length / 2) + 1 + 1 by omega, List.drop_succ_cons, List.drop_succ_cons]
  congr 1
def sumA (ns : List Int) : Int := sumI (fun n => (n.natAbs : Int)) ns
def sumN (ns : List Int) : Int := sumI (fun n => n) ns
theorem nxS_sum : ∀ (k : Nat) (ns : List Int), ns.length ≤ k → sumN (nxS ns) = sumN ns ∧ sumA (nxS ns) ≤ sumA ns
  | _, [], _ => ⟨rfl, by decide⟩
  | _, [a], _ => by simp [nxS, prs]
  | k + 1, a :: b :: r, h => by
    have ih := nxS_sum k r (by simp only [List.length_cons] at h; omega)
    rw [nxS_two]
    unfold sumN sumA at *
    simp only [sumI]
    omega
theorem sumA_nonneg : ∀ ns : List Int, 0 ≤ sumA ns
  | [] => Int.le_refl _
  | n :: ns => by have := sumA_nonneg ns; unfold sumA at *; rw [sumI]; omega
theorem sumA_mem : ∀ (ns : List Int) (j : Nat) (n : Int), ns[j]? = some n → (n.natAbs : Int) ≤ sumA ns
  | [], j, n, h => by cases h
  | m :: ns, 0, n, h => by
    cases h
    have := sumA_nonneg ns
    unfold sumA at *
    rw [sumI]
    omega
  | m :: ns, j + 1, n, h => by
    have := sumA_mem ns j n h
    unfold sumA at *
    rw [sumI]
    omega
theorem sumA_le {k : Int} : ∀ ns : List Int, (∀ n, n ∈ ns → (n.natAbs : Int) ≤ k) → sumA ns ≤ ns.length * k
  | [], _ => by simp [sumA, sumI]
  | n :: ns, h => by
    have a := h n (List.mem_cons_self ..)
    have b := sumA_le ns fun m hm => h m (List.mem_cons_of_mem _ hm)
    unfold sumA at *
    rw [sumI, List.length_cons, show ((ns.length + 1 : Nat) : Int) * k = ns.length * k + k by rw [Int.natCast_add]; grind]
    omega
theorem quad_le {a b c d : Int} (h : (a, b, c, d) ∈ quads) : a.natAbs ≤ 5 ∧ b.natAbs ≤ 5 ∧ c.natAbs ≤ 5 ∧ d.natAbs ≤ 5 := by
  have : (quads.all fun q => decide (q.1.natAbs ≤ 5 ∧ q.2.1.natAbs ≤ 5 ∧ q.2.2.1.natAbs ≤ 5 ∧ q.2.2.2.natAbs ≤ 5)) = true := by decide
  exact of_decide_eq_true (List.all_eq_true.mp this _ h)
theorem lin_lt {a b e x y k : Int} (ha : a.natAbs ≤ 5) (hb : b.natAbs ≤ 5) (he : e.natAbs < 2 ^ 70) (hx : x.natAbs ≤ 20) (hy : y.natAbs ≤ 20) (hk : k.natAbs ≤ 2) : (a * x + b * y + e * k).natAbs < 2 ^ 80 := by
  have h1 : (a * x).natAbs ≤ 100 := by rw [Int.natAbs_mul]; exact Nat.mul_le_mul ha hx
  have h2 : (b * y).natAbs ≤ 100 := by rw [Int.natAbs_mul]; exact Nat.mul_le_mul hb hy
  have h3 : (e * k).natAbs ≤ 2 ^ 70 * 2 := by rw [Int.natAbs_mul]; exact Nat.mul_le_mul (Nat.le_of_lt he) hk
  have e1 : (2 : Nat) ^ 80 = 2 ^ 70 * 1024 := by decide
  have e0 : 1000 < (2 : Nat) ^ 70 := by decide
  omega
theorem sp_lt {M : M7} (hM : MOk M) {x y k : Int} (hx : x.natAbs ≤ 20) (hy : y.natAbs ≤ 20) (hk : k.natAbs ≤ 2) : (spQ M x y k).x.natAbs < 2 ^ 80 ∧ (spQ M x y k).y.natAbs < 2 ^ 80 ∧ (spQ M x y k).w.natAbs < 2 ^ 80 := by
  obtain ⟨a, b, c, d⟩ := quad_le hM.q
  refine ⟨lin_lt a b hM.e hx hy hk, lin_lt c d hM.f hx hy hk, ?_⟩
  unfold spQ
  dsimp only
  have h1 : (M.m * k).natAbs ≤ 6 * 2 := by
    rw [Int.natAbs_mul]
    exact Nat.mul_le_mul (by rcases hM.m with e | e | e | e <;> rw [e] <;> decide) hk
  exact Nat.lt_of_le_of_lt h1 (by decide)
theorem lo_lt {M : M7} (hM : MOk M) {x y k : Int} (hx : x.natAbs ≤ 20) (hy : y.natAbs ≤ 20) (hk : k.natAbs ≤ 2) : (loQ (spQ M x y k)).x.natAbs < 2 ^ 80 ∧ (loQ (spQ M x y k)).y.natAbs < 2 ^ 80 ∧ (loQ (spQ M x y k)).w.natAbs < 2 ^ 80 := by
  have a := sp_lt hM hx hy hk
  have b := (sc_loQ (spQ M x y k)).le
  omega
theorem way_in {I : Int → Int → Bool} (h : ∀ x y, I x y = true → (0 ≤ x ∧ x < 4) ∧ (0 ≤ y ∧ y < 4)) {w : W4} (hw : w ∈ waysOf I) : w.x0.natAbs ≤ 20 ∧ w.y0.natAbs ≤ 20 ∧ w.x1.natAbs ≤ 20 ∧ w.y1.natAbs ≤ 20 := by
  unfold waysOf at hw
  obtain ⟨u, hu, hw⟩ := List.mem_flatMap.mp hw
  have hd := (idx_dirs hu).1
  have hp : 0 ≤ u.x0 ∧ u.x0 ≤ 4 ∧ 0 ≤ u.y0 ∧ u.y0 ≤ 4 := by
    unfold idxK at hu
    obtain ⟨j, hj, hu⟩ := List.mem_flatMap.mp hu
    obtain ⟨d, hd, rfl⟩ := List.mem_map.mp hu
    have := List.mem_range.mp hj
    dsimp only
    omega
  have far_le : ∀ n f, farN I u.x0 u.y0 u.x1 u.y1 n f ≤ f + n := by
    intro n
    induction n with
    | zero => intro f; exact Nat.le_refl _
    | succ n ih =>
      intro f
      unfold farN
      split
      · have := ih (f + 1)
        omega
      · omega
  unfold wayL at hw
  split at hw
  · rw [List.mem_singleton] at hw
    subst hw
    have g := far_le 6 1
    generalize farN I u.x0 u.y0 u.x1 u.y1 6 1 = n at *
    dsimp only
    unfold dirs at hd
    simp only [List.mem_cons, List.not_mem_nil, or_false, Prod.mk.injEq] at hd
    rcases hd with ⟨e1, e2⟩ | ⟨e1, e2⟩ | ⟨e1, e2⟩ | ⟨e1, e2⟩ <;> rw [e1, e2] <;> omega
  · cases hw
theorem cr_lt {I : Int → Int → Bool} (h : ∀ x y, I x y = true → (0 ≤ x ∧ x < 4) ∧ (0 ≤ y ∧ y < 4)) {M : M7} (hM : MOk M) {w : W4} (hw : w ∈ waysOf I) : (crW M w).natAbs < 2 ^ 161 := by
  obtain ⟨a, b, c, d⟩ := way_in h hw
  have p := sp_lt hM (k := 1) a b (by decide)
  have q := sp_lt hM (k := 1) c d (by decide)
  have e : crW M w = (spQ M w.x0 w.y0 1).x * (spQ M w.x1 w.y1 1).y - (spQ M w.x1 w.y1 1).x * (spQ M w.x0 w.y0 1).y := by
    unfold crW spQ fx fy
    simp only [Int.mul_one]
  rw [e]
  exact sub_lt (mul_lt p.1 q.2.1) (mul_lt q.1 p.2.1)
theorem land_sum {I : Int → Int → Bool} (h : ∀ x y, I x y = true → (0 ≤ x ∧ x < 4) ∧ (0 ≤ y ∧ y < 4)) {M : M7} (hM : MOk M) {ws : List W4} (hw : ws.Perm (waysOf I)) : sumA (ws.map (crW M)) < 2 ^ 180 := by
  have l : ws.length ≤ 40 := by rw [hw.length_eq]; exact ways_len h
  have b := sumA_le (k := 2 ^ 161) (ws.map (crW M)) fun n hn => by
    obtain ⟨w, hw', rfl⟩ := List.mem_map.mp hn
    have := cr_lt h hM (hw.mem_iff.mp hw')
    exact Int.le_of_lt (by exact_mod_cast this)
  rw [List.length_map] at b
  have e : (2 : Int) ^ 180 = 524288 * 2 ^ 161 := by decide
  rw [e]
  have p : (0 : Int) < 2 ^ 161 := by decide
  have : (ws.length : Int) * 2 ^ 161 ≤ 40 * 2 ^ 161 := Int.mul_le_mul_of_nonneg_right (by omega) (by omega)
  omega
theorem sumN_map {α : Type} (f : α → Int) (l : List α) : sumN (l.map f) = sumI f l := by
  unfold sumN
  rw [sumI_map]
end My
namespace Mine
open PySem L2 My
def top (i : Nat) : Stmt := PySem.Challenge.pw_acre_k24_where_and_area.main.body.getD i (.Pass ⟨0, 0, 0, 0⟩)
abbrev s_is_whole : Stmt := top 5
theorem sc_is_whole : FnScope ["thing"] ["thing"] (defScope s_is_whole) := ⟨rfl, rfl, rfl, by decide +kernel, rfl, by decide +kernel, by decide +kernel⟩
abbrev s_divisor : Stmt := top 6
theorem sc_divisor : FnScope ["one", "other", "great", "small", "rest"] ["one", "other"] (defScope s_divisor) := ⟨rfl, rfl, rfl, by decide +kernel, rfl, by decide +kernel, by decide +kernel⟩
abbrev s_fraction : Stmt := top 8
theorem sc_fraction : FnScope ["top", "bottom", "factor"] ["top", "bottom"] (defScope s_fraction) := ⟨rfl, rfl, rfl, by decide +kernel, rfl, by decide +kernel, by decide +kernel⟩
abbrev s_plus : Stmt := top 9
theorem sc_plus : FnScope ["one", "other"] ["one", "other"] (defScope s_plus) := ⟨rfl, rfl, rfl, by decide +kernel, rfl, by decide +kernel, by decide +kernel⟩
abbrev s_half : Stmt := top 10
theorem sc_half : FnScope ["one"] ["one"] (defScope s_half) := ⟨rfl, rfl, rfl, by decide +kernel, rfl, by decide +kernel, by decide +kernel⟩
abbrev s_total : Stmt := top 11
theorem sc_total : FnScope ["some", "sums", "pairs"] ["some"] (defScope s_total) := ⟨rfl, rfl, rfl, by decide +kernel, rfl, by decide +kernel, by decide +kernel⟩
abbrev s_before : Stmt := top 13
theorem sc_before : FnScope ["P", "Q", "left", "right"] ["P", "Q"] (defScope s_before) := ⟨rfl, rfl, rfl, by decide +kernel, rfl, by decide +kernel, by decide +kernel⟩
abbrev s_sign_of : Stmt := top 14
theorem sc_sign_of : FnScope ["number"] ["number"] (defScope s_sign_of) := ⟨rfl, rfl, rfl, by decide +kernel, rfl, by decide +kernel, by decide +kernel⟩
abbrev s_line_of : Stmt := top 15
theorem sc_line_of : FnScope ["P", "Q"] ["P", "Q"] (defScope s_line_of) := ⟨rfl, rfl, rfl, by decide +kernel, rfl, by decide +kernel, by decide +kernel⟩
abbrev s_side_of : Stmt := top 16
theorem sc_side_of : FnScope ["line", "P"] ["line", "P"] (defScope s_side_of) := ⟨rfl, rfl, rfl, by decide +kernel, rfl, by decide +kernel, by decide +kernel⟩
abbrev s_turn : Stmt := top 17
theorem sc_turn : FnScope ["P", "Q", "R"] ["P", "Q", "R"] (defScope s_turn) := ⟨rfl, rfl, rfl, by decide +kernel, rfl, by decide +kernel, by decide +kernel⟩
abbrev s_stretch : Stmt := top 19
theorem sc_stretch : FnScope ["P", "Q"] ["P", "Q"] (defScope s_stretch) := ⟨rfl, rfl, rfl, by decide +kernel, rfl, by decide +kernel, by decide +kernel⟩
abbrev s_stretches_of : Stmt := top 20
theorem sc_stretches_of : FnScope ["fences"] ["fences"] (defScope s_stretches_of) := ⟨rfl, rfl, rfl, by decide +kernel, rfl, by decide +kernel, by decide +kernel⟩
abbrev s_lies_on : Stmt := top 21
theorem sc_lies_on : FnScope ["P", "S"] ["P", "S"] (defScope s_lies_on) := ⟨rfl, rfl, rfl, by decide +kernel, rfl, by decide +kernel, by decide +kernel⟩
abbrev s_above : Stmt := top 23
theorem sc_above : FnScope ["stretches", "P"] ["stretches", "P"] (defScope s_above) := ⟨rfl, rfl, rfl, by decide +kernel, rfl, by decide +kernel, by decide +kernel⟩
abbrev s_spans : Stmt := top 24
theorem sc_spans : FnScope ["S", "P"] ["S", "P"] (defScope s_spans) := ⟨rfl, rfl, rfl, by decide +kernel, rfl, by decide +kernel, by decide +kernel⟩
abbrev s_whereX : Stmt := top 26
theorem sc_whereX : FnScope ["land", "P", "sides"] ["land", "P"] (defScope s_whereX) := ⟨rfl, rfl, rfl, by decide +kernel, rfl, by decide +kernel, by decide +kernel⟩
abbrev s_area : Stmt := top 27
theorem sc_area : FnScope ["land"] ["land"] (defScope s_area) := ⟨rfl, rfl, rfl, by decide +kernel, rfl, by decide +kernel, by decide +kernel⟩
abbrev s_law_cell_at : Stmt := top 29
theorem sc_law_cell_at : FnScope ["_law_script", "_law_k"] ["_law_script", "_law_k"] (defScope s_law_cell_at) := ⟨rfl, rfl, rfl, by decide +kernel, rfl, by decide +kernel, by decide +kernel⟩
abbrev s_law_whole : Stmt := top 30
theorem sc_law_whole : FnScope ["_law_found"] ["_law_found"] (defScope s_law_whole) := ⟨rfl, rfl, rfl, by decide +kernel, rfl, by decide +kernel, by decide +kernel⟩
abbrev s_law_held : Stmt := top 31
theorem sc_law_held : FnScope ["_law_cell", "_law_held_here", "_law_k"] ["_law_cell"] (defScope s_law_held) := ⟨rfl, rfl, rfl, by decide +kernel, rfl, by decide +kernel, by decide +kernel⟩
abbrev s_law_in : Stmt := top 32
theorem sc_law_in : FnScope ["_law_held_here", "_law_x", "_law_y"] ["_law_held_here", "_law_x", "_law_y"] (defScope s_law_in) := ⟨rfl, rfl, rfl, by decide +kernel, rfl, by decide +kernel, by decide +kernel⟩
abbrev s_law_edge : Stmt := top 33
theorem sc_law_edge : FnScope ["_law_held_here", "_law_x", "_law_y", "_law_way", "_law_one"] ["_law_held_here", "_law_x", "_law_y", "_law_way"] (defScope s_law_edge) := ⟨rfl, rfl, rfl, by decide +kernel, rfl, by decide +kernel, by decide +kernel⟩
abbrev s_law_smooth : Stmt := top 34
theorem sc_law_smooth : FnScope ["_law_held_here", "_law_x", "_law_y", "_law_flat", "_law_tall"] ["_law_held_here", "_law_x", "_law_y"] (defScope s_law_smooth) := ⟨rfl, rfl, rfl, by decide +kernel, rfl, by decide +kernel, by decide +kernel⟩
abbrev s_law_leaves : Stmt := top 35
theorem sc_law_leaves : FnScope ["_law_held_here", "_law_x", "_law_y", "_law_dx", "_law_dy"] ["_law_held_here", "_law_x", "_law_y", "_law_dx", "_law_dy"] (defScope s_law_leaves) := ⟨rfl, rfl, rfl, by decide +kernel, rfl, by decide +kernel, by decide +kernel⟩
abbrev s_law_ways : Stmt := top 36
theorem sc_law_ways : FnScope ["_law_held_here", "_law_ways_here", "_law_k", "_law_x", "_law_y", "_law_dx", "_law_dy", "_law_far"] ["_law_held_here"] (defScope s_law_ways) := ⟨rfl, rfl, rfl, by decide +kernel, rfl, by decide +kernel, by decide +kernel⟩
abbrev s_law_map : Stmt := top 37
theorem sc_law_map : FnScope ["_law_cell", "_law_some", "_law_far", "_law_right", "_law_high"] ["_law_cell"] (defScope s_law_map) := ⟨rfl, rfl, rfl, by decide +kernel, rfl, by decide +kernel, by decide +kernel⟩
abbrev s_law_spot : Stmt := top 38
theorem sc_law_spot : FnScope ["_law_map_of", "_law_x", "_law_y", "_law_w", "_law_right", "_law_high"] ["_law_map_of", "_law_x", "_law_y", "_law_w"] (defScope s_law_spot) := ⟨rfl, rfl, rfl, by decide +kernel, rfl, by decide +kernel, by decide +kernel⟩
abbrev s_law_low : Stmt := top 39
theorem sc_law_low : FnScope ["_law_spot_here", "_law_x", "_law_y", "_law_w", "_law_d"] ["_law_spot_here"] (defScope s_law_low) := ⟨rfl, rfl, rfl, by decide +kernel, rfl, by decide +kernel, by decide +kernel⟩
abbrev s_law_land : Stmt := top 40
theorem sc_law_land : FnScope ["_law_held_here", "_law_map_of", "_law_fences", "_law_way"] ["_law_held_here", "_law_map_of"] (defScope s_law_land) := ⟨rfl, rfl, rfl, by decide +kernel, rfl, by decide +kernel, by decide +kernel⟩
abbrev s_law_alike : Stmt := top 41
theorem sc_law_alike : FnScope ["_law_found", "_law_due_here", "_law_k"] ["_law_found", "_law_due_here"] (defScope s_law_alike) := ⟨rfl, rfl, rfl, by decide +kernel, rfl, by decide +kernel, by decide +kernel⟩
abbrev s_law_area : Stmt := top 42
theorem sc_law_area : FnScope ["_law_held_here", "_law_map_of", "_law_top", "_law_bottom", "_law_d"] ["_law_held_here", "_law_map_of"] (defScope s_law_area) := ⟨rfl, rfl, rfl, by decide +kernel, rfl, by decide +kernel, by decide +kernel⟩
abbrev s_law_due : Stmt := top 43
theorem sc_law_due : FnScope ["_law_held_here", "_law_x", "_law_y", "_law_around", "_law_dx", "_law_dy"] ["_law_held_here", "_law_x", "_law_y"] (defScope s_law_due) := ⟨rfl, rfl, rfl, by decide +kernel, rfl, by decide +kernel, by decide +kernel⟩
abbrev s_law : Stmt := top 44
theorem sc_law : FnScope ["_law_script", "_law_held_here", "_law_map_of", "_law_land_here", "_law_handed", "_law_first", "_law_k", "_law_cell", "_law_spot_here", "_law_other"] ["_law_script"] (defScope s_law) := ⟨rfl, rfl, rfl, by decide +kernel, rfl, by decide +kernel, by decide +kernel⟩
structure FnAt (K : PySem.W.Frag) (mg : Str → Option Value) (x : Str) (st : Stmt) (ps : List Str) (f : Addr) (fd : FuncData) : Prop where
  fn : Fun K x x st f fd
  bn : Binds K fd ps []
  mg : mg x = some (.ref f)
structure Txt (K : PySem.W.Frag) (mg : Str → Option Value) (ad : Nat → Addr) (fd : Nat → FuncData) : Prop where
  is_whole : FnAt K mg "is_whole" s_is_whole ["thing"] (ad 0) (fd 0)
  divisor : FnAt K mg "divisor" s_divisor ["one", "other"] (ad 1) (fd 1)
  fraction : FnAt K mg "fraction" s_fraction ["top", "bottom"] (ad 2) (fd 2)
  plus : FnAt K mg "plus" s_plus ["one", "other"] (ad 3) (fd 3)
  half : FnAt K mg "half" s_half ["one"] (ad 4) (fd 4)
  total : FnAt K mg "total" s_total ["some"] (ad 5) (fd 5)
  before : FnAt K mg "before" s_before ["P", "Q"] (ad 6) (fd 6)
  sign_of : FnAt K mg "sign_of" s_sign_of ["number"] (ad 7) (fd 7)
  line_of : FnAt K mg "line_of" s_line_of ["P", "Q"] (ad 8) (fd 8)
  side_of : FnAt K mg "side_of" s_side_of ["line", "P"] (ad 9) (fd 9)
  turn : FnAt K mg "turn" s_turn ["P", "Q", "R"] (ad 10) (fd 10)
  stretch : FnAt K mg "stretch" s_stretch ["P", "Q"] (ad 11) (fd 11)
  stretches_of : FnAt K mg "stretches_of" s_stretches_of ["fences"] (ad 12) (fd 12)
  lies_on : FnAt K mg "lies_on" s_lies_on ["P", "S"] (ad 13) (fd 13)
  above : FnAt K mg "above" s_above ["stretches", "P"] (ad 14) (fd 14)
  spans : FnAt K mg "spans" s_spans ["S", "P"] (ad 15) (fd 15)
  whereX : FnAt K mg "where" s_whereX ["land", "P"] (ad 16) (fd 16)
  area : FnAt K mg "area" s_area ["land"] (ad 17) (fd 17)
  law_cell_at : FnAt K mg "_law_cell_at" s_law_cell_at ["_law_script", "_law_k"] (ad 18) (fd 18)
  law_whole : FnAt K mg "_law_whole" s_law_whole ["_law_found"] (ad 19) (fd 19)
  law_held : FnAt K mg "_law_held" s_law_held ["_law_cell"] (ad 20) (fd 20)
  law_in : FnAt K mg "_law_in" s_law_in ["_law_held_here", "_law_x", "_law_y"] (ad 21) (fd 21)
  law_edge : FnAt K mg "_law_edge" s_law_edge ["_law_held_here", "_law_x", "_law_y", "_law_way"] (ad 22) (fd 22)
  law_smooth : FnAt K mg "_law_smooth" s_law_smooth ["_law_held_here", "_law_x", "_law_y"] (ad 23) (fd 23)
  law_leaves : FnAt K mg "_law_leaves" s_law_leaves ["_law_held_here", "_law_x", "_law_y", "_law_dx", "_law_dy"] (ad 24) (fd 24)
  law_ways : FnAt K mg "_law_ways" s_law_ways ["_law_held_here"] (ad 25) (fd 25)
  law_map : FnAt K mg "_law_map" s_law_map ["_law_cell"] (ad 26) (fd 26)
  law_spot : FnAt K mg "_law_spot" s_law_spot ["_law_map_of", "_law_x", "_law_y", "_law_w"] (ad 27) (fd 27)
  law_low : FnAt K mg "_law_low" s_law_low ["_law_spot_here"] (ad 28) (fd 28)
  law_land : FnAt K mg "_law_land" s_law_land ["_law_held_here", "_law_map_of"] (ad 29) (fd 29)
  law_alike : FnAt K mg "_law_alike" s_law_alike ["_law_found", "_law_due_here"] (ad 30) (fd 30)
  law_area : FnAt K mg "_law_area" s_law_area ["_law_held_here", "_law_map_of"] (ad 31) (fd 31)
  law_due : FnAt K mg "_law_due" s_law_due ["_law_held_here", "_law_x", "_law_y"] (ad 32) (fd 32)
  law : FnAt K mg "law" s_law ["_law_script"] (ad 33) (fd 33)
  b_abs : mg "abs" = none
  b_any : mg "any" = none
  b_bool : mg "bool" = none
  b_int : mg "int" = none
  b_isinstance : mg "isinstance" = none
  b_len : mg "len" = none
  b_list : mg "list" = none
  b_min : mg "min" = none
  b_range : mg "range" = none
  b_sorted : mg "sorted" = none
  b_tuple : mg "tuple" = none
def sp_whole : Sp := fun vs H Q _ => ∃ i : Int, vs = [.int i] ∧ Q (.bl true) H
def sp_divisor : Sp := fun vs H Q _ => ∃ a b : Int, vs = [.int a, .int b] ∧ Q (.int (G a b)) H
def iv_divisor (a b : Int) (H₀ : Hp) : St → Hp → Prop := fun σ H' => H' = H₀ ∧ ∃ (x y : Int) (r : Option V), σ = [some (.int a), some (.int b), some (.int x), some (.int y), r] ∧ 0 ≤ x ∧ 0 ≤ y ∧ G x y = G a b
def sp_cell (K : PySem.W.Frag) : Sp := fun vs H Q _ => ∃ (l : Addr) (ns : List Int) (k : Int), vs = [.ref l, .int k] ∧ SqL K H l (ns.map V.int) ∧ 0 ≤ k ∧ Q (.int (ns.getD k.toNat 0)) H
def sp_law (K : PySem.W.Frag) : Sp := fun vs H Q _ => ∃ (a : Addr) (ns : List Int), vs = [.ref a] ∧ SqL K H a (ns.map V.int) ∧ ns.length ≤ 63 ∧ ∀ H', Q (.bl true) H'
def PtH (n : Nat) (H : Hp) (p : Addr) (x y w : Int) : Prop := H p = some (.tup [.int x, .int y, .int w]) ∧ Pt n x y w
theorem PtH.same {n : Nat} {H H' : Hp} {p : Addr} {x y w : Int} (h : PtH n H p x y w) (g : Same H H') : PtH n H' p x y w := ⟨g _ _ h.1, h.2⟩
theorem PtH.mono {m n : Nat} {H : Hp} {p : Addr} {x y w : Int} (h : PtH m H p x y w) (hm : m ≤ n) : PtH n H p x y w := ⟨h.1, h.2.mono hm⟩
def Bd3 (n : Nat) (a b c : Int) : Prop := a.natAbs < 2 ^ n ∧ b.natAbs < 2 ^ n ∧ c.natAbs < 2 ^ n
def TB (n : Nat) (H : Hp) (p : Addr) (x y w : Int) : Prop := H p = some (.tup [.int x, .int y, .int w]) ∧ Bd3 n x y w
theorem TB.same {n : Nat} {H H' : Hp} {p : Addr} {x y w : Int} (h : TB n H p x y w) (g : Same H H') : TB n H' p x y w := ⟨g _ _ h.1, h.2⟩
theorem Bd3.mono {m n : Nat} {x y w : Int} (h : Bd3 m x y w) (hm : m ≤ n) : Bd3 n x y w := ⟨lt_mono h.1 hm, lt_mono h.2.1 hm, lt_mono h.2.2 hm⟩
theorem TB.mono {m n : Nat} {H : Hp} {p : Addr} {x y w : Int} (h : TB m H p x y w) (hm : m ≤ n := by decide) : TB n H p x y w := ⟨h.1, h.2.mono hm⟩
theorem Pt.bd {m n : Nat} {x y w : Int} (h : Pt m x y w) (hm : m ≤ n := by decide) : Bd3 n x y w := ⟨lt_mono h.lx hm, lt_mono h.ly hm, lt_mono h.lw hm⟩
theorem PtH.tb {m n : Nat} {H : Hp} {p : Addr} {x y w : Int} (h : PtH m H p x y w) (hm : m ≤ n := by decide) : TB n H p x y w := ⟨h.1, Pt.bd h.2 hm⟩
def sp_before : Sp := fun vs H Q _ => ∃ (p q : Addr) (x1 y1 w1 x2 y2 w2 : Int), vs = [.ref p, .ref q] ∧ TB 1000 H p x1 y1 w1 ∧ TB 1000 H q x2 y2 w2 ∧ Q (.bl (bef x1 y1 w1 x2 y2 w2)) H
def sp_sign : Sp := fun vs H Q _ => ∃ z : Int, vs = [.int z] ∧ Q (.int (sgn z)) H
def sp_line : Sp := fun vs H Q _ => ∃ (p q : Addr) (x1 y1 w1 x2 y2 w2 : Int), vs = [.ref p, .ref q] ∧ TB 1000 H p x1 y1 w1 ∧ TB 1000 H q x2 y2 w2 ∧ ∀ (r : Addr) (H' : Hp), Same H H' →
  H' r = some (.tup [.int (lnA x1 y1 w1 x2 y2 w2), .int (lnB x1 y1 w1 x2 y2 w2), .int (lnC x1 y1 w1 x2 y2 w2)]) → Q (.ref r) H'
theorem ln_bd {x1 y1 w1 x2 y2 w2 : Int} (p : Bd3 1000 x1 y1 w1) (q : Bd3 1000 x2 y2 w2) : Bd3 2001 (lnA x1 y1 w1 x2 y2 w2) (lnB x1 y1 w1 x2 y2 w2) (lnC x1 y1 w1 x2 y2 w2) :=
  ⟨sub_lt (mul_lt p.2.1 q.2.2) (mul_lt p.2.2 q.2.1), sub_lt (mul_lt p.2.2 q.1) (mul_lt p.1 q.2.2), sub_lt (mul_lt p.1 q.2.1) (mul_lt p.2.1 q.1)⟩
def sp_side : Sp := fun vs H Q _ => ∃ (l p : Addr) (a b c x y w : Int), vs = [.ref l, .ref p] ∧ H l = some (.tup [.int a, .int b, .int c]) ∧ Bd3 2001 a b c ∧ H p = some (.tup [.int x, .int y, .int w]) ∧ Bd3 5000 x y w ∧ Q (.int (sgn (a * x + b * y + c * w))) H
def sp_turn : Sp := fun vs H Q _ => ∃ (p q r : Addr) (x1 y1 w1 x2 y2 w2 x3 y3 w3 : Int), vs = [.ref p, .ref q, .ref r] ∧ TB 1000 H p x1 y1 w1 ∧ TB 1000 H q x2 y2 w2 ∧ TB 5000 H r x3 y3 w3 ∧ ∀ H', Same H H' → Q (.int (sgn (det3 x1 y1 w1 x2 y2 w2 x3 y3 w3))) H'
def TupSame (H H' : Hp) : Prop := ∀ b xs, H b = some (.tup xs) → H' b = some (.tup xs)
theorem ts_same {H H' : Hp} (g : Same H H') : TupSame H H' := fun b xs h => g b _ h
theorem ts_put {H : Hp} {D : Addr} {ys : List V} {o : HO} (h : H D = some (.lst ys)) : TupSame H (upd H D o) := fun b xs q => by
  rw [upd_ne (ne_of q h (by intro z; cases z))]
  exact q
def PB (H : Hp) (p : Addr) : Prop := ∃ x y w : Int, TB 1000 H p x y w ∧ 0 < w
def PBn (n : Nat) (H : Hp) (p : Addr) : Prop := ∃ x y w : Int, TB n H p x y w ∧ 0 < w
theorem PBn.ts {n : Nat} {H H' : Hp} {p : Addr} (g : TupSame H H') (h : PBn n H p) : PBn n H' p := by
  obtain ⟨x, y, w, ⟨h1, h2⟩, h3⟩ := h
  exact ⟨x, y, w, ⟨g _ _ h1, h2⟩, h3⟩
theorem PBn.pb {n : Nat} {H : Hp} {p : Addr} (h : PBn n H p) (hn : n ≤ 1000) : PB H p := by
  obtain ⟨x, y, w, h1, h3⟩ := h
  exact ⟨x, y, w, h1.mono hn, h3⟩
theorem PBn.mono {m n : Nat} {H : Hp} {p : Addr} (h : PBn m H p) (hn : m ≤ n) : PBn n H p := by
  obtain ⟨x, y, w, h1, h3⟩ := h
  exact ⟨x, y, w, h1.mono hn, h3⟩
theorem PB.ts {H H' : Hp} {p : Addr} (g : TupSame H H') (h : PB H p) : PB H' p := by
  obtain ⟨x, y, w, ⟨h1, h2⟩, h3⟩ := h
  exact ⟨x, y, w, ⟨g _ _ h1, h2⟩, h3⟩
def StV (H : Hp) (p : Addr) (d : S6) : Prop := ∃ a b, H p = some (.tup [.ref a, .ref b]) ∧ TB 1000 H a d.x1 d.y1 d.w1 ∧ TB 1000 H b d.x2 d.y2 d.w2
theorem TB.ts {n : Nat} {H H' : Hp} {p : Addr} {x y w : Int} (h : TB n H p x y w) (g : TupSame H H') : TB n H' p x y w := ⟨g _ _ h.1, h.2⟩
theorem StV.ts {H H' : Hp} {p : Addr} {d : S6} (h : StV H p d) (g : TupSame H H') : StV H' p d := by
  obtain ⟨a, b, h1, h2, h3⟩ := h
  exact ⟨a, b, g _ _ h1, h2.ts g, h3.ts g⟩
def StL (H : Hp) (ys : List V) (ds : List S6) : Prop := ys.length = ds.length ∧ ∀ (j : Nat) (v : V), ys[j]? = some v → ∃ (p : Addr) (d : S6), v = .ref p ∧ ds[j]? = some d ∧ StV H p d
theorem StL.ts {H H' : Hp} {ys : List V} {ds : List S6} (h : StL H ys ds) (g : TupSame H H') : StL H' ys ds := ⟨h.1, fun j v z => by
  obtain ⟨p, d, e, f, s⟩ := h.2 j v z
  exact ⟨p, d, e, f, s.ts g⟩⟩
theorem StL.nil {H : Hp} : StL H [] [] := ⟨rfl, fun j v z => by cases z⟩
theorem StL.snoc {H : Hp} {ys : List V} {ds : List S6} {p : Addr} {d : S6} (h : StL H ys ds) (s : StV H p d) : StL H (ys ++ [.ref p]) (ds ++ [d]) := by
  refine ⟨by rw [List.length_append, List.length_append, h.1]; rfl, fun j v z => ?_⟩
  by_cases hj : j < ys.length
  · rw [List.getElem?_append_left hj] at z
    obtain ⟨q, e, f, g, t⟩ := h.2 j v z
    exact ⟨q, e, f, by rw [List.getElem?_append_left (by rw [← h.1]; exact hj)]; exact g, t⟩
  · rw [List.getElem?_append_right (by omega)] at z
    cases e : j - ys.length with
    | zero =>
      rw [e] at z
      cases z
      exact ⟨p, d, rfl, by rw [List.getElem?_append_right (by rw [← h.1]; omega), ← h.1, e]; rfl, s⟩
    | succ n => rw [e] at z; cases z
def dSt (d : S6) : PyData := .tuple [dPt d.x1 d.y1 d.w1, dPt d.x2 d.y2 d.w2]
theorem rd_stv {K : PySem.W.Frag} {H : Hp} {p : Addr} {d : S6} (h : StV H p d) : RdD K H (dSt d) (.ref p) := by
  obtain ⟨a, b, hp, ha, hb⟩ := h
  unfold dSt
  rw [RdD]
  refine ⟨p, _, rfl, .of hp, ?_⟩
  rw [RdDs]
  refine ⟨_, _, rfl, rd_pt (.of ha.1), ?_⟩
  rw [RdDs]
  refine ⟨_, _, rfl, rd_pt (.of hb.1), ?_⟩
  rw [RdDs]
theorem rdDs_of {K : PySem.W.Frag} {H : Hp} : ∀ (ys : List V) (ds : List S6), StL H ys ds → RdDs K H (ds.map dSt) ys
  | [], [], _ => by rw [List.map_nil, RdDs]
  | [], d :: ds, h => by cases h.1
  | v :: ys, [], h => by cases h.1
  | v :: ys, d :: ds, h => by
    obtain ⟨p, d', e, f, s⟩ := h.2 0 v rfl
    cases f
    subst e
    rw [List.map_cons, RdDs]
    exact ⟨_, ys, rfl, rd_stv s, rdDs_of ys ds ⟨Nat.succ.inj h.1, fun j v z => h.2 (j + 1) v z⟩⟩
theorem rd_stl {K : PySem.W.Frag} {H : Hp} {l : Addr} {ys : List V} {ds : List S6} (hl : H l = some (.lst ys)) (h : StL H ys ds) : RdD K H (.list (ds.map dSt)) (.ref l) := by
  rw [RdD]
  exact ⟨l, ys, rfl, .of hl, rdDs_of ys ds h⟩
theorem dSt_all (ds : List S6) : PyData.canLayAll0 (ds.map dSt) = true ∧ PyData.depthAll (ds.map dSt) ≤ 2 ∧ PyData.eqvAll (ds.map dSt) (ds.map dSt) = true := by
  induction ds with
  | nil => simp [PyData.canLayAll0, PyData.depthAll, PyData.eqvAll]
  | cons d ds ih =>
    obtain ⟨h1, h2, h3⟩ := ih
    refine ⟨?_, ?_, ?_⟩
    · simp [PyData.canLayAll0, dSt, dPt, PyData.canLay0, h1]
    · simp only [List.map_cons, PyData.depthAll, dSt, dPt, PyData.depth]
      omega
    · simp [PyData.eqvAll, dSt, dPt, PyData.eqv, h3]
theorem stl_shaped (ds : List S6) : SeqAt.shaped (.list (ds.map dSt)) = true := by
  obtain ⟨h1, h2, h3⟩ := dSt_all ds
  unfold SeqAt.shaped
  rw [PyData.canLay0, h1, Bool.true_and, PyData.depth]
  exact decide_eq_true (by omega)
theorem stl_eqv (ds : List S6) : PyData.eqv (.list (ds.map dSt)) (.list (ds.map dSt)) = true := by
  rw [PyData.eqv]
  exact (dSt_all ds).2.2
def sp_spans : Sp := fun vs H Q _ => ∃ (p q : Addr) (d : S6) (x y w : Int), vs = [.ref p, .ref q] ∧ StV H p d ∧ TB 1000 H q x y w ∧ Q (.bl (spansB d x w)) H
def sp_above : Sp := fun vs H Q _ => ∃ (l q : Addr) (ys : List V) (ds : List S6) (x y w : Int), vs = [.ref l, .ref q] ∧ H l = some (.lst ys) ∧ ys.length < 100000 ∧ StL H ys ds ∧ TB 1000 H q x y w ∧ ∀ H', Same H H' → Q (.int (cntAb ds x y w)) H'
def sp_lies_on : Sp := fun vs H Q _ => ∃ (p s a b : Addr) (x1 y1 w1 x2 y2 w2 x3 y3 w3 : Int), vs = [.ref p, .ref s] ∧ H s = some (.tup [.ref a, .ref b]) ∧ TB 1000 H a x1 y1 w1 ∧ TB 1000 H b x2 y2 w2 ∧ TB 1000 H p x3 y3 w3 ∧ ∀ H', Same H H' → Q (.bl (onB x1 y1 w1 x2 y2 w2 x3 y3 w3)) H'
structure P3 where
  x : Int
  y : Int
  w : Int
def sd1 (p q : P3) : S6 := if bef p.x p.y p.w q.x q.y q.w = true then ⟨p.x, p.y, p.w, q.x, q.y, q.w⟩ else ⟨q.x, q.y, q.w, p.x, p.y, p.w⟩
def sd (p q : P3) : List S6 := if p.x = q.x ∧ p.y = q.y ∧ p.w = q.w then [] else [sd1 p q]
def sp_sd : Sp := fun vs H Q _ => ∃ (p q : Addr) (a b : P3), vs = [.ref p, .ref q] ∧ TB 1000 H p a.x a.y a.w ∧ TB 1000 H q b.x b.y b.w ∧ ¬ (a.x = b.x ∧ a.y = b.y ∧ a.w = b.w) ∧ ∀ r H', Same H H' → StV H' r (sd1 a b) → Q (.ref r) H'
def RgH (H : Hp) (p : Addr) (r : List P3) : Prop := ∃ zs, H p = some (.lst zs) ∧ zs.length = r.length ∧ r.length ≤ 20 ∧ ∀ (k : Nat) (v : V), zs[k]? = some v → ∃ (a : Addr) (c : P3), v = .ref a ∧ r[k]? = some c ∧ TB 1000 H a c.x c.y c.w
theorem RgH.same {H H' : Hp} {p : Addr} {r : List P3} (h : RgH H p r) (g : Same H H') : RgH H' p r := by
  obtain ⟨zs, h1, h2, h3, h4⟩ := h
  refine ⟨zs, g _ _ h1, h2, h3, fun k v z => ?_⟩
  obtain ⟨a, c, e, f, t⟩ := h4 k v z
  exact ⟨a, c, e, f, t.same g⟩
def RgL (H : Hp) (ys : List V) (rs : List (List P3)) : Prop := ys.length = rs.length ∧ ∀ (j : Nat) (v : V), ys[j]? = some v → ∃ (p : Addr) (r : List P3), v = .ref p ∧ rs[j]? = some r ∧ RgH H p r
theorem RgL.same {H H' : Hp} {ys : List V} {rs : List (List P3)} (h : RgL H ys rs) (g : Same H H') : RgL H' ys rs := ⟨h.1, fun j v z => by
  obtain ⟨p, r, e, f, t⟩ := h.2 j v z
  exact ⟨p, r, e, f, t.same g⟩⟩
theorem RgL.nil {H : Hp} : RgL H [] [] := ⟨rfl, fun j v z => by cases z⟩
def Al : Nat → Hp → V → V → Prop
  | 0, _, _, _ => False
  | n + 1, H, x, y => (∃ i : Int, x = .int i ∧ y = .int i) ∨ ∃ (p q : Addr) (xs ys : List V), x = .ref p ∧ y = .ref q ∧ ((H p = some (.tup xs) ∧ H q = some (.tup ys)) ∨ (H p = some (.lst xs) ∧ H q = some (.lst ys))) ∧ xs.length = ys.length ∧ ys.length ≤ 1000 ∧ ∀ (j : Nat) (u v : V), xs[j]? = some u → ys[j]? = some v → Al n H u v
def sp_alike (n : Nat) : Sp := fun vs H Q _ => ∃ x y : V, vs = [x, y] ∧ Al n H x y ∧ Q (.bl true) H
theorem sp_alike_zero {vs : List V} {H : Hp} {Q : VK} {E : XK} (h : sp_alike 0 vs H Q E) : False := by
  obtain ⟨x, y, _, h, _⟩ := h
  exact h
def LR {α : Type} (R : Hp → Addr → α → Prop) (H : Hp) (ys : List V) (as : List α) : Prop := ys.length = as.length ∧ ∀ (j : Nat) (v : V), ys[j]? = some v → ∃ (p : Addr) (a : α), v = .ref p ∧ as[j]? = some a ∧ R H p a
section
variable {α : Type} {R : Hp → Addr → α → Prop}
theorem LR.ts (hR : ∀ H H' p a, TupSame H H' → R H p a → R H' p a) {H H' : Hp} {ys : List V} {as : List α} (h : LR R H ys as) (g : TupSame H H') : LR R H' ys as := ⟨h.1, fun j v z => by
  obtain ⟨p, d, e, f, s⟩ := h.2 j v z
  exact ⟨p, d, e, f, hR _ _ _ _ g s⟩⟩
theorem LR.nil {H : Hp} : LR R H [] [] := ⟨rfl, fun j v z => by cases z⟩
theorem LR.app {H : Hp} {ys zs : List V} {as bs : List α} (h : LR R H ys as) (h' : LR R H zs bs) : LR R H (ys ++ zs) (as ++ bs) := by
  refine ⟨by rw [List.length_append, List.length_append, h.1, h'.1], fun j v z => ?_⟩
  by_cases hj : j < ys.length
  · rw [List.getElem?_append_left hj] at z
    obtain ⟨q, e, f, g, t⟩ := h.2 j v z
    exact ⟨q, e, f, by rw [List.getElem?_append_left (by rw [← h.1]; exact hj)]; exact g, t⟩
  · rw [List.getElem?_append_right (by omega)] at z
    obtain ⟨q, e, f, g, t⟩ := h'.2 _ v z
    exact ⟨q, e, f, by rw [List.getElem?_append_right (by rw [← h.1]; omega), ← h.1]; exact g, t⟩
theorem LR.one {H : Hp} {p : Addr} {a : α} (s : R H p a) : LR R H [.ref p] [a] := ⟨rfl, fun j v z => by
  cases j with
  | zero => cases z; exact ⟨p, a, rfl, rfl, s⟩
  | succ n => cases z⟩
theorem LR.snoc {H : Hp} {ys : List V} {as : List α} {p : Addr} {a : α} (h : LR R H ys as) (s : R H p a) : LR R H (ys ++ [.ref p]) (as ++ [a]) := h.app (.one s)
theorem LR.drop {H : Hp} {ys : List V} {as : List α} (h : LR R H ys as) (n : Nat) : LR R H (ys.drop n) (as.drop n) := by
  refine ⟨by rw [List.length_drop, List.length_drop, h.1], fun j v z => ?_⟩
  rw [List.getElem?_drop] at z
  obtain ⟨q, e, f, g, t⟩ := h.2 _ v z
  exact ⟨q, e, f, by rw [List.getElem?_drop]; exact g, t⟩
theorem LR.at {H : Hp} {ys : List V} {as : List α} (h : LR R H ys as) {j : Nat} (hj : j < ys.length) : ∃ (p : Addr) (a : α), ys[j]? = some (.ref p) ∧ as[j]? = some a ∧ R H p a := by
  obtain ⟨p, a, e, f, r⟩ := h.2 j ys[j] (List.getElem?_eq_getElem hj)
  exact ⟨p, a, by rw [List.getElem?_eq_getElem hj, e], f, r⟩
theorem LR.map {β : Type} {f : β → α} {H : Hp} {ys : List V} {bs : List β} (h : LR (fun H p b => R H p (f b)) H ys bs) : LR R H ys (bs.map f) := by
  refine ⟨by rw [List.length_map, h.1], fun j v z => ?_⟩
  obtain ⟨q, e, g, k, t⟩ := h.2 _ v z
  exact ⟨q, f e, g, by rw [List.getElem?_map, k]; rfl, t⟩
theorem LR.cons_inv {H : Hp} {v : V} {vs : List V} {as : List α} (h : LR R H (v :: vs) as) : ∃ a as', as = a :: as' ∧ (∃ p, v = .ref p ∧ R H p a) ∧ LR R H vs as' := by
  cases as with
  | nil => cases h.1
  | cons a as' =>
    refine ⟨a, as', rfl, ?_, Nat.succ.inj h.1, fun j u z => h.2 (j + 1) u z⟩
    obtain ⟨p, b, e, f, r⟩ := h.2 0 v rfl
    cases f
    exact ⟨p, e, r⟩
theorem LR.cons {H : Hp} {v : V} {vs : List V} {a : α} {as : List α} (h : ∃ p, v = .ref p ∧ R H p a) (t : LR R H vs as) : LR R H (v :: vs) (a :: as) := by
  obtain ⟨p, rfl, r⟩ := h
  exact (LR.one r).app t
theorem LR.perm {H : Hp} {vs ys : List V} (h : vs.Perm ys) : ∀ {as : List α}, LR R H vs as → ∃ as', as.Perm as' ∧ LR R H ys as' := by
  induction h with
  | nil => exact fun {as} t => ⟨as, .refl _, t⟩
  | cons v _ ih =>
    intro as t
    obtain ⟨a, as', rfl, hp, t'⟩ := t.cons_inv
    obtain ⟨bs, pb, tb⟩ := ih t'
    exact ⟨a :: bs, pb.cons a, .cons hp tb⟩
  | swap u v l =>
    intro as t
    obtain ⟨a, as', rfl, hp, t'⟩ := t.cons_inv
    obtain ⟨b, as2, rfl, hq, t2⟩ := t'.cons_inv
    exact ⟨b :: a :: as2, .swap b a as2, .cons hq (.cons hp t2)⟩
  | trans _ _ i1 i2 =>
    intro as t
    obtain ⟨bs, p1, t1⟩ := i1 t
    obtain ⟨cs, p2, t2⟩ := i2 t1
    exact ⟨cs, p1.trans p2, t2⟩
def iv_lr (R : Hp → Addr → α → Prop) (as : List α) (H2 : Hp) (D : Addr) : Nat → List V → Hp → Prop := fun i ys H' => Same H2 H' ∧ H' D = some (.lst ys) ∧ ys.length = i ∧ LR R H' ys (as.take i)
theorem iv_lr_nil {as : List α} {H2 : Hp} {D : Addr} (hD : H2 D = none) : iv_lr R as H2 D 0 [] (upd H2 D (.lst [])) := ⟨same_new hD _, upd_same, rfl, by rw [List.take_zero]; exact .nil⟩
theorem iv_lr_put (hR : ∀ H H' p a, TupSame H H' → R H p a → R H' p a) {m : Nat} {H2 H3 H4 : Hp} {D : Addr} {i : Nat} {ys : List V} {p : Addr} {as : List α} {a : α} (hD : H2 D = none) (hm : m < 100000) (iv : iv_lr R as H2 D i ys H3) (hi : i < m) (ha : as[i]? = some a) (g4 : Same H3 H4) (hp : R H4 p a) : CPut m (iv_lr R as H2 D) D i (.ref p) H4 := by
  obtain ⟨g3', hD3, hy, hall⟩ := iv
  have hD4 := g4 _ _ hD3
  refine cw_put hi hD4 (by rw [hy]; exact Nat.lt_trans hi (Nat.lt_trans hm (by decide))) ⟨same_put (g3'.trans g4) hD, upd_same, by rw [List.length_append, hy]; rfl, ?_⟩
  rw [List.take_add_one, ha]
  exact ((hall.ts hR (ts_same g4)).snoc hp).ts hR (ts_put hD4)
end
theorem stv_ts : ∀ (H H' : Hp) (p : Addr) (d : S6), TupSame H H' → StV H p d → StV H' p d := fun _ _ _ _ g h => h.ts g
def FrH (D : Int) (H : Hp) (p : Addr) (n : Int) : Prop := ∃ t b : Int, H p = some (.tup [.int t, .int b]) ∧ FrD D n t b
theorem frh_ts {D : Int} : ∀ (H H' : Hp) (p : Addr) (n : Int), TupSame H H' → FrH D H p n → FrH D H' p n := fun _ _ _ _ g h => by
  obtain ⟨t, b, h1, h2⟩ := h
  exact ⟨t, b, g _ _ h1, h2⟩
structure SzD (D : Int) : Prop where
  pos : 0 < D
  lt : D.natAbs < 2 ^ 300
def sp_frI : Sp := fun vs H Q _ => ∃ a b : Int, vs = [.int a, .int b] ∧ b ≠ 0 ∧ b.natAbs < 2 ^ 8000 ∧ ∀ p H', Same H H' → H' p = some (.tup [.int (frT a b), .int (frB a b)]) → Q (.ref p) H'
def sp_plus : Sp := fun vs H Q _ => ∃ (p q : Addr) (D N N' : Int), vs = [.ref p, .ref q] ∧ SzD D ∧ N.natAbs < 2 ^ 300 ∧ N'.natAbs < 2 ^ 300 ∧ FrH D H p N ∧ FrH D H q N' ∧ ∀ r H', Same H H' → FrH D H' r (N + N') → Q (.ref r) H'
def sp_half : Sp := fun vs H Q _ => ∃ (p : Addr) (D N : Int), vs = [.ref p] ∧ SzD D ∧ N.natAbs < 2 ^ 300 ∧ FrH D H p N ∧ ∀ r H', Same H H' → FrH (2 * D) H' r N → Q (.ref r) H'
def sp_total : Sp := fun vs H Q _ => ∃ (l : Addr) (ys : List V) (D : Int) (ns : List Int), vs = [.ref l] ∧ H l = some (.lst ys) ∧ ys.length ≤ 1000 ∧ SzD D ∧ LR (FrH D) H ys ns ∧ sumA ns < 2 ^ 300 ∧ ∀ r H', Same H H' → FrH D H' r (sumN ns) → Q (.ref r) H'
def Apart (ds : List S6) : Prop := ∀ (j : Nat) (d : S6), ds[j]? = some d → ¬ (d.x1 = d.x2 ∧ d.y1 = d.y2 ∧ d.w1 = d.w2)
def sp_strs : Sp := fun vs H Q _ => ∃ (l : Addr) (ys : List V) (ds : List S6), vs = [.ref l] ∧ H l = some (.lst ys) ∧ ys.length ≤ 1000 ∧ StL H ys ds ∧ Apart ds ∧ ∀ D zs H', Same H H' → H' D = some (.lst zs) → zs.length ≤ 1000 → StL H' zs (ds.map srt) → Q (.ref D) H'
def sp_where : Sp := fun vs H Q _ => ∃ (l q : Addr) (ys : List V) (ds : List S6) (r : Q3), vs = [.ref l, .ref q] ∧ H l = some (.lst ys) ∧ ys.length ≤ 1000 ∧ StL H ys ds ∧ Apart ds ∧ TB 1000 H q r.x r.y r.w ∧ ∀ H', Same H H' → Q (.int (whV ds r)) H'
def ArOk (D : Int) (ds : List S6) (ns : List Int) : Prop := ns.length = ds.length ∧ ∀ (j : Nat) (d : S6) (n : Int), ds[j]? = some d → ns[j]? = some n → 0 < crB d ∧ crS d * D = n * crB d
def sp_area : Sp := fun vs H Q _ => ∃ (l : Addr) (ys : List V) (ds : List S6) (D : Int) (ns : List Int), vs = [.ref l] ∧ H l = some (.lst ys) ∧ ys.length ≤ 1000 ∧ StL H ys ds ∧ SzD D ∧ ArOk D ds ns ∧ sumA ns < 2 ^ 300 ∧ ∀ r H', Same H H' → FrH (2 * D) H' r (sumN ns) → Q (.ref r) H'
def BL (H : Hp) (l : Addr) (bs : List Bool) : Prop := H l = some (.lst (bs.map V.bl)) ∧ bs.length = 16
theorem BL.same {H H' : Hp} {l : Addr} {bs : List Bool} (h : BL H l bs) (g : Same H H') : BL H' l bs := ⟨g _ _ h.1, h.2⟩
def sp_held : Sp := fun vs H Q _ => ∃ c : Int, vs = [.int c] ∧ ∀ l bs H', Same H H' → BL H' l bs → Q (.ref l) H'
def sp_in : Sp := fun vs H Q _ => ∃ (l : Addr) (bs : List Bool) (x y : Int), vs = [.ref l, .int x, .int y] ∧ BL H l bs ∧ Q (.bl (inB bs x y)) H
def edV (I : Int → Int → Bool) (x y k : Int) : Int := if k = 0 then eH I x y else eV I x y
def sp_edge : Sp := fun vs H Q _ => ∃ (l : Addr) (bs : List Bool) (x y k : Int), vs = [.ref l, .int x, .int y, .int k] ∧ BL H l bs ∧ Q (.int (edV (inB bs) x y k)) H
def sp_smooth : Sp := fun vs H Q _ => ∃ (l : Addr) (bs : List Bool) (x y : Int), vs = [.ref l, .int x, .int y] ∧ BL H l bs ∧ ∀ H', Same H H' → Q (.bl (smB (inB bs) x y)) H'
def sp_leaves : Sp := fun vs H Q _ => ∃ (l : Addr) (bs : List Bool) (x y dx dy : Int), vs = [.ref l, .int x, .int y, .int dx, .int dy] ∧ BL H l bs ∧ Q (.bl (lvB (inB bs) x y dx dy)) H
def W4H (H : Hp) (p : Addr) (w : W4) : Prop := H p = some (.tup [.int w.x0, .int w.y0, .int w.x1, .int w.y1])
theorem w4h_ts : ∀ (H H' : Hp) (p : Addr) (w : W4), TupSame H H' → W4H H p w → W4H H' p w := fun _ _ _ _ g h => g _ _ h
def sp_ways : Sp := fun vs H Q _ => ∃ (l : Addr) (bs : List Bool), vs = [.ref l] ∧ BL H l bs ∧ ∀ D zs H', H D = none → Same H H' → H' D = some (.lst zs) → LR W4H H' zs (waysOf (inB bs)) → Q (.ref D) H'
def MpH (H : Hp) (p : Addr) (M : M7) : Prop := H p = some (.tup [.int M.a, .int M.b, .int M.c, .int M.d, .int M.e, .int M.f, .int M.m]) ∧ MOk M
theorem MpH.same {H H' : Hp} {p : Addr} {M : M7} (h : MpH H p M) (g : Same H H') : MpH H' p M := ⟨g _ _ h.1, h.2⟩
def sp_map : Sp := fun vs H Q _ => ∃ c : Int, vs = [.int c] ∧ ∀ p M H', Same H H' → MpH H' p M → Q (.ref p) H'
def QH (H : Hp) (p : Addr) (r : Q3) : Prop := H p = some (.tup [.int r.x, .int r.y, .int r.w])
def sp_spot : Sp := fun vs H Q _ => ∃ (p : Addr) (M : M7) (x y k : Int), vs = [.ref p, .int x, .int y, .int k] ∧ MpH H p M ∧ x.natAbs ≤ 20 ∧ y.natAbs ≤ 20 ∧ k.natAbs ≤ 2 ∧ ∀ r H', Same H H' → QH H' r (spQ M x y k) → Q (.ref r) H'
def sp_low : Sp := fun vs H Q _ => ∃ (p : Addr) (r : Q3), vs = [.ref p] ∧ QH H p r ∧ ∀ q H', Same H H' → QH H' q (loQ r) → Q (.ref q) H'
def LdH (H : Hp) (D : Addr) (bs : List Bool) (M : M7) (zs : List V) (ws : List W4) : Prop := H D = some (.lst zs) ∧ ws.Perm (waysOf (inB bs)) ∧ StL H zs (ws.map (lfQ M))
def sp_land : Sp := fun vs H Q _ => ∃ (l p : Addr) (bs : List Bool) (M : M7), vs = [.ref l, .ref p] ∧ BL H l bs ∧ MpH H p M ∧ ∀ D zs ws H', H D = none → Same H H' → LdH H' D bs M zs ws → Q (.ref D) H'
def arV (bs : List Bool) (M : M7) : T2 := arQ ⟨((bs.filter id).length : Int) * (M.a * M.d - M.b * M.c), M.m * M.m⟩
def sp_larea : Sp := fun vs H Q _ => ∃ (l p : Addr) (bs : List Bool) (M : M7), vs = [.ref l, .ref p] ∧ BL H l bs ∧ MpH H p M ∧ ∀ r H', Same H H' → H' r = some (.tup [.int (arV bs M).t, .int (arV bs M).b]) → Q (.ref r) H'
def sp_due : Sp := fun vs H Q _ => ∃ (l : Addr) (bs : List Bool) (x y : Int), vs = [.ref l, .int x, .int y] ∧ BL H l bs ∧ ∀ H', Same H H' → Q (.int (dueV (inB bs) x y)) H'
section
variable {P : Program} {w : World} {K : PySem.W.Frag} {mg : Str → Option Value} {base : Heap} {ad : Nat → Addr} {fd : Nat → FuncData}
theorem ok_is_whole (T : Txt K mg ad fd) : FnOk P w K mg base CX0 1 (ad 0) (fd 0) ["thing"] sp_whole := by
  refine T.is_whole.fn.ok sc_is_whole (fun vs H Q E h => ?_) (fun cdv A outer s H vs Q E hr h => ?_)
  · obtain ⟨i, rfl, _⟩ := h
    rfl
  obtain ⟨i, rfl, q⟩ := h
  have qpss_one := @pss_one
  have qps_ret := @ps_ret
  have qpe_and := @pe_and
  have qpe_callB := @pe_callB
  have qpa2 := @pa2
  have qpv := @pv
  have qpe_bltn := @pe_bltn
  have qpe_one := @pe_one
  have qpe_not := @pe_not
  generalize @L2.PE = QE, @L2.PT = QT, @L2.PW = QW, @L2.PA = QA, @L2.PS = QS, @L2.PSs = QSs, @L2.PG = QG, @L2.PGs = QGs, @L2.PI = QI, @L2.PO = QO, @L2.PIf = QIf at qpss_one qps_ret qpe_and qpe_callB qpa2 qpv qpe_bltn qpe_one qpe_not ⊢
  refine ⟨_,
    (qpss_one (qps_ret (qpe_and (qpe_callB (isiF call_isi_int) rfl T.b_isinstance bt_isinstance (qpa2 (qpv 0) ns_Name (qpe_bltn (v := .ty "int") rfl T.b_int bt_int rfl) ns_Name)) (qpe_one (qpe_not (qpe_callB (isiF call_isi_bool) rfl T.b_isinstance bt_isinstance (qpa2 (qpv 0) ns_Name (qpe_bltn (v := .ty "bool") rfl T.b_bool bt_bool rfl) ns_Name)))))))
    , ?_⟩
  clear  qpss_one qps_ret qpe_and qpe_callB qpa2 qpv qpe_bltn qpe_one qpe_not QE QT QW QA QS QSs QG QGs QI QO QIf
  simp only [tSeq, tNext, tRet, tRetN, tIfS, tAsg, gName, tDrop, tVar, tC, tOp, tUn, rI, rI0, rU, rEq, rNe, tTest, tB, tNot, tAnd, tOr, tAndV, tOrV, tNotV, tIf, tCB, tCall, tNil, tCons, tTup, tLst, gTup, gCons, gNil, L2.start, rIsi, rIxT, rIxL, cx_K, tyN_non, tyN_bl, tyN_int, tyN_str, isi_ii, isi_ib, isi_it, isi_il, isi_bi, isi_bb, isi_tt, isi_ni, isi_si, isi_ti, isi_li, isi_di, isi_ll, scal_ii, scal_bb, sz0, sz1, sz2, sz3, sz4, List.map_cons, List.map_nil, List.length_cons, List.length_nil, List.replicate, List.cons_append, List.nil_append, List.append_nil, List.getElem?_cons_zero, List.getElem?_cons_succ, List.set_cons_zero, List.set_cons_succ, Option.some.injEq, V.int.injEq, V.bl.injEq, V.ref.injEq, V.ty.injEq, List.cons.injEq, and_true, true_and, exists_eq_left, exists_eq_left', exists_and_left, exists_and_right, exists_eq, exists_eq', and_assoc, Nat.reduceAdd, Nat.reduceSub, Bool.not_true, Bool.not_false, Bool.false_eq_true, if_true, if_false, reduceIte, Nat.zero_add, decide_true, decide_false, selC, comp_K, tYes, Option.join_some, rIxTH, rIxLH, rLenH, rIsiF, at0, at1, at2, at3, at4, at5, at6, at7, at8, HO.tup.injEq, HO.lst.injEq, reduceCtorEq, false_or, or_false, tyF_non, tyF_bl, tyF_int, tyF_str, exists_const, Int.reduceAdd, Int.reduceMul, Int.reduceSub, gSub, rSetL, tSl, tPart, tNoPart, rSlH, upd_same, upd_upd, rIntB, rListH, tBM, tBM0, rAppend, rClear, tPar, gTupH]
  exact q
theorem ok_divisor (T : Txt K mg ad fd) : FnOk P w K mg base CX0 1 (ad 1) (fd 1) ["one", "other"] sp_divisor := by
  refine T.divisor.fn.ok sc_divisor (fun vs H Q E h => ?_) (fun cdv A outer s H vs Q E hr h => ?_)
  · obtain ⟨a, b, rfl, _⟩ := h
    rfl
  obtain ⟨a, b, rfl, q⟩ := h
  have qpss4 := @pss4
  have qps_set := @ps_set
  have qpe_callB := @pe_callB
  have qpa1 := @pa1
  have qpv := @pv
  have qps_while := @ps_while
  have qpt_cmpR := @pt_cmpR
  have qpe_int := @pe_int
  have qpss3 := @pss3
  have qpe_op := @pe_op
  have qps_ret := @ps_ret
  generalize @L2.PE = QE, @L2.PT = QT, @L2.PW = QW, @L2.PA = QA, @L2.PS = QS, @L2.PSs = QSs, @L2.PG = QG, @L2.PGs = QGs, @L2.PI = QI, @L2.PO = QO, @L2.PIf = QIf at qpss4 qps_set qpe_callB qpa1 qpv qps_while qpt_cmpR qpe_int qpss3 qpe_op qps_ret ⊢
  refine ⟨_,
    (qpss4
      (qps_set (i := 2) sc_divisor.nd rfl (Or.inl rfl) (qpe_callB call_abs rfl T.b_abs bt_abs (qpa1 (qpv 0) ns_Name)))
      (qps_set (i := 3) sc_divisor.nd rfl (Or.inl rfl) (qpe_callB call_abs rfl T.b_abs bt_abs (qpa1 (qpv 1) ns_Name)))
      (qps_while PassesOwn.never (qpt_cmpR op_ne (qpv 3) qpe_int (nomark _)) (qpss3
      (qps_set (i := 4) sc_divisor.nd rfl (Or.inl rfl) (qpe_op op_modN (qpv 2) (qpv 3)))
      (qps_set (i := 2) sc_divisor.nd rfl (Or.inl rfl) (qpv 3))
      (qps_set (i := 3) sc_divisor.nd rfl (Or.inl rfl) (qpv 4))))
      (qps_ret (qpv 2)))
    , ?_⟩
  clear  qpss4 qps_set qpe_callB qpa1 qpv qps_while qpt_cmpR qpe_int qpss3 qpe_op qps_ret QE QT QW QA QS QSs QG QGs QI QO QIf
  simp only [tSeq, tNext, tRet, tRetN, tIfS, tAsg, gName, tDrop, tVar, tC, tOp, tUn, rI, rI0, rU, rEq, rNe, tTest, tB, tNot, tAnd, tOr, tAndV, tOrV, tNotV, tIf, tCB, tCall, tNil, tCons, tTup, tLst, gTup, gCons, gNil, L2.start, rIsi, rIxT, rIxL, cx_K, tyN_non, tyN_bl, tyN_int, tyN_str, isi_ii, isi_ib, isi_it, isi_il, isi_bi, isi_bb, isi_tt, isi_ni, isi_si, isi_ti, isi_li, isi_di, isi_ll, scal_ii, scal_bb, sz0, sz1, sz2, sz3, sz4, List.map_cons, List.map_nil, List.length_cons, List.length_nil, List.replicate, List.cons_append, List.nil_append, List.append_nil, List.getElem?_cons_zero, List.getElem?_cons_succ, List.set_cons_zero, List.set_cons_succ, Option.some.injEq, V.int.injEq, V.bl.injEq, V.ref.injEq, V.ty.injEq, List.cons.injEq, and_true, true_and, exists_eq_left, exists_eq_left', exists_and_left, exists_and_right, exists_eq, exists_eq', and_assoc, Nat.reduceAdd, Nat.reduceSub, Bool.not_true, Bool.not_false, Bool.false_eq_true, if_true, if_false, reduceIte, Nat.zero_add, decide_true, decide_false]
  refine while_by (iv_divisor a b H) (fun σ _ => (getI σ 3).toNat) ⟨rfl, _, _, _, rfl, by split <;> omega, by split <;> omega, G_abs a b⟩ ?_
    (fun σ H Q Q' m h => by obtain ⟨v, e, s, k, e2, q⟩ := h; exact ⟨v, e, s, k, e2, m _ _ q⟩)
  rintro σ H' ⟨rfl, x, y, r, rfl, hx, hy, e⟩
  simp only [tSeq, tNext, tRet, tRetN, tIfS, tAsg, gName, tDrop, tVar, tC, tOp, tUn, rI, rI0, rU, rEq, rNe, tTest, tB, tNot, tAnd, tOr, tAndV, tOrV, tNotV, tIf, tCB, tCall, tNil, tCons, tTup, tLst, gTup, gCons, gNil, L2.start, rIsi, rIxT, rIxL, cx_K, tyN_non, tyN_bl, tyN_int, tyN_str, isi_ii, isi_ib, isi_it, isi_il, isi_bi, isi_bb, isi_tt, isi_ni, isi_si, isi_ti, isi_li, isi_di, isi_ll, scal_ii, scal_bb, sz0, sz1, sz2, sz3, sz4, List.map_cons, List.map_nil, List.length_cons, List.length_nil, List.replicate, List.cons_append, List.nil_append, List.append_nil, List.getElem?_cons_zero, List.getElem?_cons_succ, List.set_cons_zero, List.set_cons_succ, Option.some.injEq, V.int.injEq, V.bl.injEq, V.ref.injEq, V.ty.injEq, List.cons.injEq, and_true, true_and, exists_eq_left, exists_eq_left', exists_and_left, exists_and_right, exists_eq, exists_eq', and_assoc, Nat.reduceAdd, Nat.reduceSub, Bool.not_true, Bool.not_false, Bool.false_eq_true, if_true, if_false, reduceIte, Nat.zero_add, decide_true, decide_false]
  refine ite2 (fun c => ?_) (fun c => ?_)
  · have hy0 : 0 < y := by
      rcases Int.lt_or_eq_of_le hy with z | z
      · exact z
      · subst z; simp at c
    obtain ⟨h1, h2, h3⟩ := turn e hy0
    exact ⟨by omega, ⟨rfl, _, _, _, rfl, h1, h2, h3⟩, less hy0⟩
  · have hy0 : y = 0 := by simpa using c
    rw [← e, ← G_zero hx hy0] at q
    exact q
theorem ok_before (T : Txt K mg ad fd) : FnOk P w K mg base CX0 1 (ad 6) (fd 6) ["P", "Q"] sp_before := by
  refine T.before.fn.ok sc_before (fun vs H Q E h => ?_) (fun cdv A outer s H vs Q E hr h => ?_)
  · obtain ⟨p, q, x1, y1, w1, x2, y2, w2, rfl, _⟩ := h
    rfl
  obtain ⟨p, q, x1, y1, w1, x2, y2, w2, rfl, ⟨hp, pp⟩, ⟨hq, pq⟩, k⟩ := h
  have qpss4 := @pss4
  have qps_set := @ps_set
  have qpe_op := @pe_op
  have qpe_ix := @pe_ix
  have qpv := @pv
  have qpe_int := @pe_int
  have qps_if := @ps_if
  have qpt_cmpR := @pt_cmpR
  have qpss_one := @pss_one
  have qps_ret := @ps_ret
  have qpe_cmpR := @pe_cmpR
  have qpss_nil := @pss_nil
  generalize @L2.PE = QE, @L2.PT = QT, @L2.PW = QW, @L2.PA = QA, @L2.PS = QS, @L2.PSs = QSs, @L2.PG = QG, @L2.PGs = QGs, @L2.PI = QI, @L2.PO = QO, @L2.PIf = QIf at qpss4 qps_set qpe_op qpe_ix qpv qpe_int qps_if qpt_cmpR qpss_one qps_ret qpe_cmpR qpss_nil ⊢
  refine ⟨_,
    (qpss4
      (qps_set (i := 2) sc_before.nd rfl (Or.inl rfl) (qpe_op op_mulB (qpe_ix ix_tupH (qpv 0) qpe_int (fun _ _ => rfl)) (qpe_ix ix_tupH (qpv 1) qpe_int (fun _ _ => rfl))))
      (qps_set (i := 3) sc_before.nd rfl (Or.inl rfl) (qpe_op op_mulB (qpe_ix ix_tupH (qpv 1) qpe_int (fun _ _ => rfl)) (qpe_ix ix_tupH (qpv 0) qpe_int (fun _ _ => rfl))))
      (qps_if (qpt_cmpR op_ne (qpv 2) (qpv 3) (nomark _)) (qpss_one (qps_ret (qpe_cmpR op_lt (qpv 2) (qpv 3) (nomark _)))) qpss_nil)
      (qps_ret (qpe_cmpR op_lt (qpe_op op_mulB (qpe_ix ix_tupH (qpv 0) qpe_int (fun _ _ => rfl)) (qpe_ix ix_tupH (qpv 1) qpe_int (fun _ _ => rfl))) (qpe_op op_mulB (qpe_ix ix_tupH (qpv 1) qpe_int (fun _ _ => rfl)) (qpe_ix ix_tupH (qpv 0) qpe_int (fun _ _ => rfl))) (nomark _))))
    , ?_⟩
  clear  qpss4 qps_set qpe_op qpe_ix qpv qpe_int qps_if qpt_cmpR qpss_one qps_ret qpe_cmpR qpss_nil QE QT QW QA QS QSs QG QGs QI QO QIf
  simp only [tSeq, tNext, tRet, tRetN, tIfS, tAsg, gName, tDrop, tVar, tC, tOp, tUn, rI, rI0, rU, rEq, rNe, tTest, tB, tNot, tAnd, tOr, tAndV, tOrV, tNotV, tIf, tCB, tCall, tNil, tCons, tTup, tLst, gTup, gCons, gNil, L2.start, rIsi, rIxT, rIxL, cx_K, tyN_non, tyN_bl, tyN_int, tyN_str, isi_ii, isi_ib, isi_it, isi_il, isi_bi, isi_bb, isi_tt, isi_ni, isi_si, isi_ti, isi_li, isi_di, isi_ll, scal_ii, scal_bb, sz0, sz1, sz2, sz3, sz4, List.map_cons, List.map_nil, List.length_cons, List.length_nil, List.replicate, List.cons_append, List.nil_append, List.append_nil, List.getElem?_cons_zero, List.getElem?_cons_succ, List.set_cons_zero, List.set_cons_succ, Option.some.injEq, V.int.injEq, V.bl.injEq, V.ref.injEq, V.ty.injEq, List.cons.injEq, and_true, true_and, exists_eq_left, exists_eq_left', exists_and_left, exists_and_right, exists_eq, exists_eq', and_assoc, Nat.reduceAdd, Nat.reduceSub, Bool.not_true, Bool.not_false, Bool.false_eq_true, if_true, if_false, reduceIte, Nat.zero_add, decide_true, decide_false, selC, comp_K, tYes, Option.join_some, rIxTH, rIxLH, rLenH, rIsiF, at0, at1, at2, at3, at4, at5, at6, at7, at8, HO.tup.injEq, HO.lst.injEq, reduceCtorEq, false_or, or_false, tyF_non, tyF_bl, tyF_int, tyF_str, exists_const, Int.reduceAdd, Int.reduceMul, Int.reduceSub, gSub, rSetL, tSl, tPart, tNoPart, rSlH, upd_same, upd_upd, rIntB, rListH, tBM, tBM0, rAppend, rClear, tPar, gTupH, hp, hq]
  refine ⟨cbig pp.1 pq.2.2, cbig pq.1 pp.2.2, ?_⟩
  unfold bef at k
  refine ite2 (fun c => ?_) (fun c => ⟨cbig pp.2.1 pq.2.2, cbig pq.2.1 pp.2.2, ?_⟩)
  · have c' : ¬ x1 * w2 = x2 * w1 := by simpa using c
    rw [if_neg c'] at k
    exact k
  · have c' : x1 * w2 = x2 * w1 := by simpa using c
    rw [if_pos c'] at k
    exact k
theorem ok_sign_of (T : Txt K mg ad fd) : FnOk P w K mg base CX0 1 (ad 7) (fd 7) ["number"] sp_sign := by
  refine T.sign_of.fn.ok sc_sign_of (fun vs H Q E h => ?_) (fun cdv A outer s H vs Q E hr h => ?_)
  · obtain ⟨z, rfl, _⟩ := h
    rfl
  obtain ⟨z, rfl, k⟩ := h
  have qpss3 := @pss3
  have qps_if := @ps_if
  have qpt_cmpR := @pt_cmpR
  have qpv := @pv
  have qpe_int := @pe_int
  have qpss_one := @pss_one
  have qps_ret := @ps_ret
  have qpss_nil := @pss_nil
  have qpe_un := @pe_un
  generalize @L2.PE = QE, @L2.PT = QT, @L2.PW = QW, @L2.PA = QA, @L2.PS = QS, @L2.PSs = QSs, @L2.PG = QG, @L2.PGs = QGs, @L2.PI = QI, @L2.PO = QO, @L2.PIf = QIf at qpss3 qps_if qpt_cmpR qpv qpe_int qpss_one qps_ret qpss_nil qpe_un ⊢
  refine ⟨_,
    (qpss3
      (qps_if (qpt_cmpR op_gt (qpv 0) qpe_int (nomark _)) (qpss_one (qps_ret qpe_int)) qpss_nil)
      (qps_if (qpt_cmpR op_lt (qpv 0) qpe_int (nomark _)) (qpss_one (qps_ret (qpe_un un_neg qpe_int))) qpss_nil)
      (qps_ret qpe_int))
    , ?_⟩
  clear  qpss3 qps_if qpt_cmpR qpv qpe_int qpss_one qps_ret qpss_nil qpe_un QE QT QW QA QS QSs QG QGs QI QO QIf
  simp only [tSeq, tNext, tRet, tRetN, tIfS, tAsg, gName, tDrop, tVar, tC, tOp, tUn, rI, rI0, rU, rEq, rNe, tTest, tB, tNot, tAnd, tOr, tAndV, tOrV, tNotV, tIf, tCB, tCall, tNil, tCons, tTup, tLst, gTup, gCons, gNil, L2.start, rIsi, rIxT, rIxL, cx_K, tyN_non, tyN_bl, tyN_int, tyN_str, isi_ii, isi_ib, isi_it, isi_il, isi_bi, isi_bb, isi_tt, isi_ni, isi_si, isi_ti, isi_li, isi_di, isi_ll, scal_ii, scal_bb, sz0, sz1, sz2, sz3, sz4, List.map_cons, List.map_nil, List.length_cons, List.length_nil, List.replicate, List.cons_append, List.nil_append, List.append_nil, List.getElem?_cons_zero, List.getElem?_cons_succ, List.set_cons_zero, List.set_cons_succ, Option.some.injEq, V.int.injEq, V.bl.injEq, V.ref.injEq, V.ty.injEq, List.cons.injEq, and_true, true_and, exists_eq_left, exists_eq_left', exists_and_left, exists_and_right, exists_eq, exists_eq', and_assoc, Nat.reduceAdd, Nat.reduceSub, Bool.not_true, Bool.not_false, Bool.false_eq_true, if_true, if_false, reduceIte, Nat.zero_add, decide_true, decide_false, selC, comp_K, tYes, Option.join_some, rIxTH, rIxLH, rLenH, rIsiF, at0, at1, at2, at3, at4, at5, at6, at7, at8, HO.tup.injEq, HO.lst.injEq, reduceCtorEq, false_or, or_false, tyF_non, tyF_bl, tyF_int, tyF_str, exists_const, Int.reduceAdd, Int.reduceMul, Int.reduceSub, gSub, rSetL, tSl, tPart, tNoPart, rSlH, upd_same, upd_upd, rIntB, rListH, tBM, tBM0, rAppend, rClear, tPar, gTupH]
  unfold sgn at k
  refine ite2 (fun c => ?_) (fun c => ite2 (fun c2 => ?_) (fun c2 => ?_))
  · rw [if_pos (of_decide_eq_true c)] at k
    exact k
  · rw [if_neg (fun z => c (decide_eq_true z)), if_pos (of_decide_eq_true c2)] at k
    exact k
  · rw [if_neg (fun z => c (decide_eq_true z)), if_neg (fun z => c2 (decide_eq_true z))] at k
    exact k
theorem ok_line_of (T : Txt K mg ad fd) : FnOk P w K mg base CX0 1 (ad 8) (fd 8) ["P", "Q"] sp_line := by
  refine T.line_of.fn.ok sc_line_of (fun vs H Q E h => ?_) (fun cdv A outer s H vs Q E hr h => ?_)
  · obtain ⟨p, q, x1, y1, w1, x2, y2, w2, rfl, _⟩ := h
    rfl
  obtain ⟨p, q, x1, y1, w1, x2, y2, w2, rfl, ⟨hp, pp⟩, ⟨hq, pq⟩, k⟩ := h
  have qpss_one := @pss_one
  have qps_ret := @ps_ret
  have qpe_tup := @pe_tup
  have qpa3 := @pa3
  have qpe_op := @pe_op
  have qpe_ix := @pe_ix
  have qpv := @pv
  have qpe_int := @pe_int
  generalize @L2.PE = QE, @L2.PT = QT, @L2.PW = QW, @L2.PA = QA, @L2.PS = QS, @L2.PSs = QSs, @L2.PG = QG, @L2.PGs = QGs, @L2.PI = QI, @L2.PO = QO, @L2.PIf = QIf at qpss_one qps_ret qpe_tup qpa3 qpe_op qpe_ix qpv qpe_int ⊢
  refine ⟨_,
    (qpss_one (qps_ret (qpe_tup (qpa3 (qpe_op op_sub (qpe_op op_mulB (qpe_ix ix_tupH (qpv 0) qpe_int (fun _ _ => rfl)) (qpe_ix ix_tupH (qpv 1) qpe_int (fun _ _ => rfl))) (qpe_op op_mulB (qpe_ix ix_tupH (qpv 0) qpe_int (fun _ _ => rfl)) (qpe_ix ix_tupH (qpv 1) qpe_int (fun _ _ => rfl)))) ns_BinOp (qpe_op op_sub (qpe_op op_mulB (qpe_ix ix_tupH (qpv 0) qpe_int (fun _ _ => rfl)) (qpe_ix ix_tupH (qpv 1) qpe_int (fun _ _ => rfl))) (qpe_op op_mulB (qpe_ix ix_tupH (qpv 0) qpe_int (fun _ _ => rfl)) (qpe_ix ix_tupH (qpv 1) qpe_int (fun _ _ => rfl)))) ns_BinOp (qpe_op op_sub (qpe_op op_mulB (qpe_ix ix_tupH (qpv 0) qpe_int (fun _ _ => rfl)) (qpe_ix ix_tupH (qpv 1) qpe_int (fun _ _ => rfl))) (qpe_op op_mulB (qpe_ix ix_tupH (qpv 0) qpe_int (fun _ _ => rfl)) (qpe_ix ix_tupH (qpv 1) qpe_int (fun _ _ => rfl)))) ns_BinOp))))
    , ?_⟩
  clear  qpss_one qps_ret qpe_tup qpa3 qpe_op qpe_ix qpv qpe_int QE QT QW QA QS QSs QG QGs QI QO QIf
  simp only [tSeq, tNext, tRet, tRetN, tIfS, tAsg, gName, tDrop, tVar, tC, tOp, tUn, rI, rI0, rU, rEq, rNe, tTest, tB, tNot, tAnd, tOr, tAndV, tOrV, tNotV, tIf, tCB, tCall, tNil, tCons, tTup, tLst, gTup, gCons, gNil, L2.start, rIsi, rIxT, rIxL, cx_K, tyN_non, tyN_bl, tyN_int, tyN_str, isi_ii, isi_ib, isi_it, isi_il, isi_bi, isi_bb, isi_tt, isi_ni, isi_si, isi_ti, isi_li, isi_di, isi_ll, scal_ii, scal_bb, sz0, sz1, sz2, sz3, sz4, List.map_cons, List.map_nil, List.length_cons, List.length_nil, List.replicate, List.cons_append, List.nil_append, List.append_nil, List.getElem?_cons_zero, List.getElem?_cons_succ, List.set_cons_zero, List.set_cons_succ, Option.some.injEq, V.int.injEq, V.bl.injEq, V.ref.injEq, V.ty.injEq, List.cons.injEq, and_true, true_and, exists_eq_left, exists_eq_left', exists_and_left, exists_and_right, exists_eq, exists_eq', and_assoc, Nat.reduceAdd, Nat.reduceSub, Bool.not_true, Bool.not_false, Bool.false_eq_true, if_true, if_false, reduceIte, Nat.zero_add, decide_true, decide_false, selC, comp_K, tYes, Option.join_some, rIxTH, rIxLH, rLenH, rIsiF, at0, at1, at2, at3, at4, at5, at6, at7, at8, HO.tup.injEq, HO.lst.injEq, reduceCtorEq, false_or, or_false, tyF_non, tyF_bl, tyF_int, tyF_str, exists_const, Int.reduceAdd, Int.reduceMul, Int.reduceSub, gSub, rSetL, tSl, tPart, tNoPart, rSlH, upd_same, upd_upd, rIntB, rListH, tBM, tBM0, rAppend, rClear, tPar, gTupH, hp, hq]
  exact ⟨cbig pp.2.1 pq.2.2, cbig pp.2.2 pq.2.1, cbig pp.2.2 pq.1, cbig pp.1 pq.2.2, cbig pp.1 pq.2.1, cbig pp.2.1 pq.1, fun r hr => k r _ (same_new hr _) upd_same⟩
theorem ok_side_of (T : Txt K mg ad fd) : FnOk P w K mg base CX0 2 (ad 9) (fd 9) ["line", "P"] sp_side := by
  refine T.side_of.fn.ok sc_side_of (fun vs H Q E h => ?_) (fun cdv A outer s H vs Q E hr h => ?_)
  · obtain ⟨l, p, a, b, c, x, y, w, rfl, _⟩ := h
    rfl
  obtain ⟨l, p, a, b, c, x, y, w, rfl, hl, ⟨la, lb, lc⟩, hp, ⟨lx, ly, lw⟩, k⟩ := h
  have qpss_one := @pss_one
  have qps_ret := @ps_ret
  have qpe_call := @pe_call
  have qpa1 := @pa1
  have qpe_op := @pe_op
  have qpe_ix := @pe_ix
  have qpv := @pv
  have qpe_int := @pe_int
  generalize @L2.PE = QE, @L2.PT = QT, @L2.PW = QW, @L2.PA = QA, @L2.PS = QS, @L2.PSs = QSs, @L2.PG = QG, @L2.PGs = QGs, @L2.PI = QI, @L2.PO = QO, @L2.PIf = QIf at qpss_one qps_ret qpe_call qpa1 qpe_op qpe_ix qpv qpe_int ⊢
  refine ⟨_,
    (qpss_one (qps_ret (qpe_call (ok_sign_of T) (hr.mono (by decide)) rfl T.sign_of.mg T.sign_of.fn.kp T.sign_of.bn .nil pass0 (qpa1 (qpe_op op_add (qpe_op op_add (qpe_op op_mulB (qpe_ix ix_tupH (qpv 0) qpe_int (fun _ _ => rfl)) (qpe_ix ix_tupH (qpv 1) qpe_int (fun _ _ => rfl))) (qpe_op op_mulB (qpe_ix ix_tupH (qpv 0) qpe_int (fun _ _ => rfl)) (qpe_ix ix_tupH (qpv 1) qpe_int (fun _ _ => rfl)))) (qpe_op op_mulB (qpe_ix ix_tupH (qpv 0) qpe_int (fun _ _ => rfl)) (qpe_ix ix_tupH (qpv 1) qpe_int (fun _ _ => rfl)))) ns_BinOp))))
    , ?_⟩
  clear  qpss_one qps_ret qpe_call qpa1 qpe_op qpe_ix qpv qpe_int QE QT QW QA QS QSs QG QGs QI QO QIf
  simp only [sp_sign, tSeq, tNext, tRet, tRetN, tIfS, tAsg, gName, tDrop, tVar, tC, tOp, tUn, rI, rI0, rU, rEq, rNe, tTest, tB, tNot, tAnd, tOr, tAndV, tOrV, tNotV, tIf, tCB, tCall, tNil, tCons, tTup, tLst, gTup, gCons, gNil, L2.start, rIsi, rIxT, rIxL, cx_K, tyN_non, tyN_bl, tyN_int, tyN_str, isi_ii, isi_ib, isi_it, isi_il, isi_bi, isi_bb, isi_tt, isi_ni, isi_si, isi_ti, isi_li, isi_di, isi_ll, scal_ii, scal_bb, sz0, sz1, sz2, sz3, sz4, List.map_cons, List.map_nil, List.length_cons, List.length_nil, List.replicate, List.cons_append, List.nil_append, List.append_nil, List.getElem?_cons_zero, List.getElem?_cons_succ, List.set_cons_zero, List.set_cons_succ, Option.some.injEq, V.int.injEq, V.bl.injEq, V.ref.injEq, V.ty.injEq, List.cons.injEq, and_true, true_and, exists_eq_left, exists_eq_left', exists_and_left, exists_and_right, exists_eq, exists_eq', and_assoc, Nat.reduceAdd, Nat.reduceSub, Bool.not_true, Bool.not_false, Bool.false_eq_true, if_true, if_false, reduceIte, Nat.zero_add, decide_true, decide_false, selC, comp_K, tYes, Option.join_some, rIxTH, rIxLH, rLenH, rIsiF, at0, at1, at2, at3, at4, at5, at6, at7, at8, HO.tup.injEq, HO.lst.injEq, reduceCtorEq, false_or, or_false, tyF_non, tyF_bl, tyF_int, tyF_str, exists_const, Int.reduceAdd, Int.reduceMul, Int.reduceSub, gSub, rSetL, tSl, tPart, tNoPart, rSlH, upd_same, upd_upd, rIntB, rListH, tBM, tBM0, rAppend, rClear, tPar, gTupH, hl, hp]
  exact ⟨cbig la lx, cbig lb ly, cbig lc lw, k⟩
theorem ok_turn (T : Txt K mg ad fd) : FnOk P w K mg base CX0 3 (ad 10) (fd 10) ["P", "Q", "R"] sp_turn := by
  refine T.turn.fn.ok sc_turn (fun vs H Q E h => ?_) (fun cdv A outer s H vs Q E hr h => ?_)
  · obtain ⟨p, q, r, x1, y1, w1, x2, y2, w2, x3, y3, w3, rfl, _⟩ := h
    rfl
  obtain ⟨p, q, r, x1, y1, w1, x2, y2, w2, x3, y3, w3, rfl, hp, hq, hr', k⟩ := h
  have qpss_one := @pss_one
  have qps_ret := @ps_ret
  have qpe_call := @pe_call
  have qpa2 := @pa2
  have qpv := @pv
  generalize @L2.PE = QE, @L2.PT = QT, @L2.PW = QW, @L2.PA = QA, @L2.PS = QS, @L2.PSs = QSs, @L2.PG = QG, @L2.PGs = QGs, @L2.PI = QI, @L2.PO = QO, @L2.PIf = QIf at qpss_one qps_ret qpe_call qpa2 qpv ⊢
  refine ⟨_,
    (qpss_one (qps_ret (qpe_call (ok_side_of T) (hr.mono (by decide)) rfl T.side_of.mg T.side_of.fn.kp T.side_of.bn .nil pass0 (qpa2 (qpe_call (ok_line_of T) (hr.mono (by decide)) rfl T.line_of.mg T.line_of.fn.kp T.line_of.bn .nil pass0 (qpa2 (qpv 0) ns_Name (qpv 1) ns_Name)) ns_Call (qpv 2) ns_Name))))
    , ?_⟩
  clear  qpss_one qps_ret qpe_call qpa2 qpv QE QT QW QA QS QSs QG QGs QI QO QIf
  simp only [sp_line, sp_side, tSeq, tNext, tRet, tRetN, tIfS, tAsg, gName, tDrop, tVar, tC, tOp, tUn, rI, rI0, rU, rEq, rNe, tTest, tB, tNot, tAnd, tOr, tAndV, tOrV, tNotV, tIf, tCB, tCall, tNil, tCons, tTup, tLst, gTup, gCons, gNil, L2.start, rIsi, rIxT, rIxL, cx_K, tyN_non, tyN_bl, tyN_int, tyN_str, isi_ii, isi_ib, isi_it, isi_il, isi_bi, isi_bb, isi_tt, isi_ni, isi_si, isi_ti, isi_li, isi_di, isi_ll, scal_ii, scal_bb, sz0, sz1, sz2, sz3, sz4, List.map_cons, List.map_nil, List.length_cons, List.length_nil, List.replicate, List.cons_append, List.nil_append, List.append_nil, List.getElem?_cons_zero, List.getElem?_cons_succ, List.set_cons_zero, List.set_cons_succ, Option.some.injEq, V.int.injEq, V.bl.injEq, V.ref.injEq, V.ty.injEq, List.cons.injEq, and_true, true_and, exists_eq_left, exists_eq_left', exists_and_left, exists_and_right, exists_eq, exists_eq', and_assoc, Nat.reduceAdd, Nat.reduceSub, Bool.not_true, Bool.not_false, Bool.false_eq_true, if_true, if_false, reduceIte, Nat.zero_add, decide_true, decide_false, selC, comp_K, tYes, Option.join_some, rIxTH, rIxLH, rLenH, rIsiF, at0, at1, at2, at3, at4, at5, at6, at7, at8, HO.tup.injEq, HO.lst.injEq, reduceCtorEq, false_or, or_false, tyF_non, tyF_bl, tyF_int, tyF_str, exists_const, Int.reduceAdd, Int.reduceMul, Int.reduceSub, gSub, rSetL, tSl, tPart, tNoPart, rSlH, upd_same, upd_upd, rIntB, rListH, tBM, tBM0, rAppend, rClear, tPar, gTupH]
  exact ⟨x1, y1, w1, hp, x2, y2, w2, hq, fun l H2 g2 hl => ⟨_, _, _, hl, ln_bd hp.2 hq.2, _, _, _, (hr'.same g2).1, hr'.2, k H2 g2⟩⟩
theorem ok_stretch (T : Txt K mg ad fd) : FnOk P w K mg base CX0 2 (ad 11) (fd 11) ["P", "Q"] sp_sd := by
  refine T.stretch.fn.ok sc_stretch (fun vs H Q E h => ?_) (fun cdv A outer s H vs Q E hr h => ?_)
  · obtain ⟨p, q, a, b, rfl, _⟩ := h
    rfl
  obtain ⟨p, q, a, b, rfl, hp, hq, ne, k⟩ := h
  have qpss3 := @pss3
  have qps_if := @ps_if
  have qpt_cmpR := @pt_cmpR
  have qpv := @pv
  have qpss_one := @pss_one
  have qps_never := @ps_never
  have qpss_nil := @pss_nil
  have qpt_val := @pt_val
  have qpe_call := @pe_call
  have qpa2 := @pa2
  have qps_ret := @ps_ret
  have qpe_tup := @pe_tup
  generalize @L2.PE = QE, @L2.PT = QT, @L2.PW = QW, @L2.PA = QA, @L2.PS = QS, @L2.PSs = QSs, @L2.PG = QG, @L2.PGs = QGs, @L2.PI = QI, @L2.PO = QO, @L2.PIf = QIf at qpss3 qps_if qpt_cmpR qpv qpss_one qps_never qpss_nil qpt_val qpe_call qpa2 qps_ret qpe_tup ⊢
  refine ⟨_,
    (qpss3
      (qps_if (qpt_cmpR (op_eqD (hu64 hr)) (qpv 0) (qpv 1) (nomark _)) (qpss_one qps_never) qpss_nil)
      (qps_if (qpt_val (qpe_call (ok_before T) (hr.mono (by decide)) rfl T.before.mg T.before.fn.kp T.before.bn .nil pass0 (qpa2 (qpv 0) ns_Name (qpv 1) ns_Name))) (qpss_one (qps_ret (qpe_tup (qpa2 (qpv 0) ns_Name (qpv 1) ns_Name)))) qpss_nil)
      (qps_ret (qpe_tup (qpa2 (qpv 1) ns_Name (qpv 0) ns_Name))))
    , ?_⟩
  clear  qpss3 qps_if qpt_cmpR qpv qpss_one qps_never qpss_nil qpt_val qpe_call qpa2 qps_ret qpe_tup QE QT QW QA QS QSs QG QGs QI QO QIf
  simp only [tRaise, tSeq, tNext, tRet, tRetN, tIfS, tAsg, gName, tDrop, tVar, tC, tOp, tUn, rI, rI0, rU, rEq, rNe, tTest, tB, tNot, tAnd, tOr, tAndV, tOrV, tNotV, tIf, tCB, tCall, tNil, tCons, tTup, tLst, gTup, gCons, gNil, L2.start, rIsi, rIxT, rIxL, cx_K, tyN_non, tyN_bl, tyN_int, tyN_str, isi_ii, isi_ib, isi_it, isi_il, isi_bi, isi_bb, isi_tt, isi_ni, isi_si, isi_ti, isi_li, isi_di, isi_ll, scal_ii, scal_bb, sz0, sz1, sz2, sz3, sz4, List.map_cons, List.map_nil, List.length_cons, List.length_nil, List.replicate, List.cons_append, List.nil_append, List.append_nil, List.getElem?_cons_zero, List.getElem?_cons_succ, List.set_cons_zero, List.set_cons_succ, Option.some.injEq, V.int.injEq, V.bl.injEq, V.ref.injEq, V.ty.injEq, List.cons.injEq, and_true, true_and, exists_eq_left, exists_eq_left', exists_and_left, exists_and_right, exists_eq, exists_eq', and_assoc, Nat.reduceAdd, Nat.reduceSub, Bool.not_true, Bool.not_false, Bool.false_eq_true, if_true, if_false, reduceIte, Nat.zero_add, decide_true, decide_false, selC, comp_K, tYes, Option.join_some, rIxTH, rIxLH, rLenH, rIsiF, at0, at1, at2, at3, at4, at5, at6, at7, at8, HO.tup.injEq, HO.lst.injEq, reduceCtorEq, false_or, or_false, tyF_non, tyF_bl, tyF_int, tyF_str, exists_const, Int.reduceAdd, Int.reduceMul, Int.reduceSub, gSub, rSetL, tSl, tPart, tNoPart, rSlH, upd_same, upd_upd, rIntB, rListH, tBM, tBM0, rAppend, rClear, tPar, gTupH]
  refine ⟨_, _, rd_pt (.of hp.1), rd_pt (.of hq.1), dPt_shaped _ _ _, dPt_shaped _ _ _, _, rfl, ?_⟩
  rw [dPt_eqv, decide_eq_false ne]
  unfold sd1 at k
  refine iteF ⟨p, q, _, _, _, _, _, _, rfl, hp, hq, _, rfl, ite2 (fun c => ?_) (fun c => ?_)⟩
  · intro r hr'
    have g := same_new hr' (HO.tup [V.ref p, V.ref q])
    have z := k r _ g
    rw [if_pos c] at z
    exact z ⟨p, q, upd_same, hp.same g, hq.same g⟩
  · intro r hr'
    have g := same_new hr' (HO.tup [V.ref q, V.ref p])
    have z := k r _ g
    rw [if_neg c] at z
    exact z ⟨q, p, upd_same, hq.same g, hp.same g⟩
theorem ok_lies_on (T : Txt K mg ad fd) : FnOk P w K mg base CX0 4 (ad 13) (fd 13) ["P", "S"] sp_lies_on := by
  refine T.lies_on.fn.ok sc_lies_on (fun vs H Q E h => ?_) (fun cdv A outer s H vs Q E hr h => ?_)
  · obtain ⟨p, s, a, b, x1, y1, w1, x2, y2, w2, x3, y3, w3, rfl, _⟩ := h
    rfl
  obtain ⟨p, s, a, b, x1, y1, w1, x2, y2, w2, x3, y3, w3, rfl, hs, ha, hb, hp, k⟩ := h
  have qpss2 := @pss2
  have qps_if := @ps_if
  have qpt_cmpR := @pt_cmpR
  have qpe_call := @pe_call
  have qpa3 := @pa3
  have qpe_ix := @pe_ix
  have qpv := @pv
  have qpe_int := @pe_int
  have qpss_one := @pss_one
  have qps_ret := @ps_ret
  have qpe_bl := @pe_bl
  have qpss_nil := @pss_nil
  have qpe_and := @pe_and
  have qpe_not := @pe_not
  have qpa2 := @pa2
  have qpe_one := @pe_one
  generalize @L2.PE = QE, @L2.PT = QT, @L2.PW = QW, @L2.PA = QA, @L2.PS = QS, @L2.PSs = QSs, @L2.PG = QG, @L2.PGs = QGs, @L2.PI = QI, @L2.PO = QO, @L2.PIf = QIf at qpss2 qps_if qpt_cmpR qpe_call qpa3 qpe_ix qpv qpe_int qpss_one qps_ret qpe_bl qpss_nil qpe_and qpe_not qpa2 qpe_one ⊢
  refine ⟨_,
    (qpss2
      (qps_if (qpt_cmpR op_ne (qpe_call (ok_turn T) (hr.mono (by decide)) rfl T.turn.mg T.turn.fn.kp T.turn.bn .nil pass0 (qpa3 (qpe_ix ix_tupH (qpv 1) qpe_int (fun _ _ => rfl)) ns_Subscript (qpe_ix ix_tupH (qpv 1) qpe_int (fun _ _ => rfl)) ns_Subscript (qpv 0) ns_Name)) qpe_int (nomark _)) (qpss_one (qps_ret qpe_bl)) qpss_nil)
      (qps_ret (qpe_and (qpe_not (qpe_call (ok_before T) (hr.mono (by decide)) rfl T.before.mg T.before.fn.kp T.before.bn .nil pass0 (qpa2 (qpv 0) ns_Name (qpe_ix ix_tupH (qpv 1) qpe_int (fun _ _ => rfl)) ns_Subscript))) (qpe_one (qpe_not (qpe_call (ok_before T) (hr.mono (by decide)) rfl T.before.mg T.before.fn.kp T.before.bn .nil pass0 (qpa2 (qpe_ix ix_tupH (qpv 1) qpe_int (fun _ _ => rfl)) ns_Subscript (qpv 0) ns_Name)))))))
    , ?_⟩
  clear  qpss2 qps_if qpt_cmpR qpe_call qpa3 qpe_ix qpv qpe_int qpss_one qps_ret qpe_bl qpss_nil qpe_and qpe_not qpa2 qpe_one QE QT QW QA QS QSs QG QGs QI QO QIf
  simp only [tSeq, tNext, tRet, tRetN, tIfS, tAsg, gName, tDrop, tVar, tC, tOp, tUn, rI, rI0, rU, rEq, rNe, tTest, tB, tNot, tAnd, tOr, tAndV, tOrV, tNotV, tIf, tCB, tCall, tNil, tCons, tTup, tLst, gTup, gCons, gNil, L2.start, rIsi, rIxT, rIxL, cx_K, tyN_non, tyN_bl, tyN_int, tyN_str, isi_ii, isi_ib, isi_it, isi_il, isi_bi, isi_bb, isi_tt, isi_ni, isi_si, isi_ti, isi_li, isi_di, isi_ll, scal_ii, scal_bb, sz0, sz1, sz2, sz3, sz4, List.map_cons, List.map_nil, List.length_cons, List.length_nil, List.replicate, List.cons_append, List.nil_append, List.append_nil, List.getElem?_cons_zero, List.getElem?_cons_succ, List.set_cons_zero, List.set_cons_succ, Option.some.injEq, V.int.injEq, V.bl.injEq, V.ref.injEq, V.ty.injEq, List.cons.injEq, and_true, true_and, exists_eq_left, exists_eq_left', exists_and_left, exists_and_right, exists_eq, exists_eq', and_assoc, Nat.reduceAdd, Nat.reduceSub, Bool.not_true, Bool.not_false, Bool.false_eq_true, if_true, if_false, reduceIte, Nat.zero_add, decide_true, decide_false, selC, comp_K, tYes, Option.join_some, rIxTH, rIxLH, rLenH, rIsiF, at0, at1, at2, at3, at4, at5, at6, at7, at8, HO.tup.injEq, HO.lst.injEq, reduceCtorEq, false_or, or_false, tyF_non, tyF_bl, tyF_int, tyF_str, exists_const, Int.reduceAdd, Int.reduceMul, Int.reduceSub, gSub, rSetL, tSl, tPart, tNoPart, rSlH, upd_same, upd_upd, rIntB, rListH, tBM, tBM0, rAppend, rClear, tPar, gTupH, hs]
  unfold onB at k
  refine ⟨a, b, p, _, _, _, _, _, _, _, _, _, rfl, ha, hb, hp.mono, fun H1 g1 => ⟨rfl, ?_⟩⟩
  have hs1 := g1 _ _ hs
  have z := k H1 g1
  have hp1 := hp.same g1
  have ha1 := ha.same g1
  have hb1 := hb.same g1
  simp only [tSeq, tNext, tRet, tRetN, tIfS, tAsg, gName, tDrop, tVar, tC, tOp, tUn, rI, rI0, rU, rEq, rNe, tTest, tB, tNot, tAnd, tOr, tAndV, tOrV, tNotV, tIf, tCB, tCall, tNil, tCons, tTup, tLst, gTup, gCons, gNil, L2.start, rIsi, rIxT, rIxL, cx_K, tyN_non, tyN_bl, tyN_int, tyN_str, isi_ii, isi_ib, isi_it, isi_il, isi_bi, isi_bb, isi_tt, isi_ni, isi_si, isi_ti, isi_li, isi_di, isi_ll, scal_ii, scal_bb, sz0, sz1, sz2, sz3, sz4, List.map_cons, List.map_nil, List.length_cons, List.length_nil, List.replicate, List.cons_append, List.nil_append, List.append_nil, List.getElem?_cons_zero, List.getElem?_cons_succ, List.set_cons_zero, List.set_cons_succ, Option.some.injEq, V.int.injEq, V.bl.injEq, V.ref.injEq, V.ty.injEq, List.cons.injEq, and_true, true_and, exists_eq_left, exists_eq_left', exists_and_left, exists_and_right, exists_eq, exists_eq', and_assoc, Nat.reduceAdd, Nat.reduceSub, Bool.not_true, Bool.not_false, Bool.false_eq_true, if_true, if_false, reduceIte, Nat.zero_add, decide_true, decide_false, selC, comp_K, tYes, Option.join_some, rIxTH, rIxLH, rLenH, rIsiF, at0, at1, at2, at3, at4, at5, at6, at7, at8, HO.tup.injEq, HO.lst.injEq, reduceCtorEq, false_or, or_false, tyF_non, tyF_bl, tyF_int, tyF_str, exists_const, Int.reduceAdd, Int.reduceMul, Int.reduceSub, gSub, rSetL, tSl, tPart, tNoPart, rSlH, upd_same, upd_upd, rIntB, rListH, tBM, tBM0, rAppend, rClear, tPar, gTupH, hs1]
  refine ite2 (fun c => ?_) (fun c => ?_)
  · have c' : ¬ sgn (det3 x1 y1 w1 x2 y2 w2 x3 y3 w3) = 0 := by simpa using c
    rw [if_neg c'] at z
    exact z
  · have c' : sgn (det3 x1 y1 w1 x2 y2 w2 x3 y3 w3) = 0 := by simpa using c
    rw [if_pos c'] at z
    refine ⟨p, a, _, _, _, _, _, _, rfl, hp1, ha1, _, rfl, ite2 (fun c2 => ?_) (fun c2 => ?_)⟩
    · have c2' : bef x3 y3 w3 x1 y1 w1 = false := by simpa using c2
      simp only [tSeq, tNext, tRet, tRetN, tIfS, tAsg, gName, tDrop, tVar, tC, tOp, tUn, rI, rI0, rU, rEq, rNe, tTest, tB, tNot, tAnd, tOr, tAndV, tOrV, tNotV, tIf, tCB, tCall, tNil, tCons, tTup, tLst, gTup, gCons, gNil, L2.start, rIsi, rIxT, rIxL, cx_K, tyN_non, tyN_bl, tyN_int, tyN_str, isi_ii, isi_ib, isi_it, isi_il, isi_bi, isi_bb, isi_tt, isi_ni, isi_si, isi_ti, isi_li, isi_di, isi_ll, scal_ii, scal_bb, sz0, sz1, sz2, sz3, sz4, List.map_cons, List.map_nil, List.length_cons, List.length_nil, List.replicate, List.cons_append, List.nil_append, List.append_nil, List.getElem?_cons_zero, List.getElem?_cons_succ, List.set_cons_zero, List.set_cons_succ, Option.some.injEq, V.int.injEq, V.bl.injEq, V.ref.injEq, V.ty.injEq, List.cons.injEq, and_true, true_and, exists_eq_left, exists_eq_left', exists_and_left, exists_and_right, exists_eq, exists_eq', and_assoc, Nat.reduceAdd, Nat.reduceSub, Bool.not_true, Bool.not_false, Bool.false_eq_true, if_true, if_false, reduceIte, Nat.zero_add, decide_true, decide_false, selC, comp_K, tYes, Option.join_some, rIxTH, rIxLH, rLenH, rIsiF, at0, at1, at2, at3, at4, at5, at6, at7, at8, HO.tup.injEq, HO.lst.injEq, reduceCtorEq, false_or, or_false, tyF_non, tyF_bl, tyF_int, tyF_str, exists_const, Int.reduceAdd, Int.reduceMul, Int.reduceSub, gSub, rSetL, tSl, tPart, tNoPart, rSlH, upd_same, upd_upd, rIntB, rListH, tBM, tBM0, rAppend, rClear, tPar, gTupH, hs1]
      refine ⟨b, p, _, _, _, _, _, _, rfl, hb1, hp1, _, rfl, ?_⟩
      rw [c2', Bool.not_false, Bool.true_and] at z
      exact z
    · have c2' : bef x3 y3 w3 x1 y1 w1 = true := by simpa using c2
      rw [c2', Bool.not_true, Bool.false_and] at z
      exact z
theorem ok_spans (T : Txt K mg ad fd) : FnOk P w K mg base CX0 1 (ad 15) (fd 15) ["S", "P"] sp_spans := by
  refine T.spans.fn.ok sc_spans (fun vs H Q E h => ?_) (fun cdv A outer s H vs Q E hr h => ?_)
  · obtain ⟨p, q, d, x, y, w, rfl, _⟩ := h
    rfl
  obtain ⟨p, q, d, x, y, w, rfl, ⟨a, b, hp, ha, hb⟩, hq, k⟩ := h
  have qpss2 := @pss2
  have qps_if := @ps_if
  have qpt_cmpR := @pt_cmpR
  have qpe_op := @pe_op
  have qpe_ix := @pe_ix
  have qpv := @pv
  have qpe_int := @pe_int
  have qpss_one := @pss_one
  have qps_ret := @ps_ret
  have qpe_bl := @pe_bl
  have qpss_nil := @pss_nil
  have qpe_cmpR := @pe_cmpR
  generalize @L2.PE = QE, @L2.PT = QT, @L2.PW = QW, @L2.PA = QA, @L2.PS = QS, @L2.PSs = QSs, @L2.PG = QG, @L2.PGs = QGs, @L2.PI = QI, @L2.PO = QO, @L2.PIf = QIf at qpss2 qps_if qpt_cmpR qpe_op qpe_ix qpv qpe_int qpss_one qps_ret qpe_bl qpss_nil qpe_cmpR ⊢
  refine ⟨_,
    (qpss2
      (qps_if (qpt_cmpR op_lt (qpe_op op_mulB (qpe_ix ix_tupH (qpv 1) qpe_int (fun _ _ => rfl)) (qpe_ix ix_tupH (qpe_ix ix_tupH (qpv 0) qpe_int (fun _ _ => rfl)) qpe_int (fun _ _ => rfl))) (qpe_op op_mulB (qpe_ix ix_tupH (qpe_ix ix_tupH (qpv 0) qpe_int (fun _ _ => rfl)) qpe_int (fun _ _ => rfl)) (qpe_ix ix_tupH (qpv 1) qpe_int (fun _ _ => rfl))) (nomark _)) (qpss_one (qps_ret qpe_bl)) qpss_nil)
      (qps_ret (qpe_cmpR op_lt (qpe_op op_mulB (qpe_ix ix_tupH (qpv 1) qpe_int (fun _ _ => rfl)) (qpe_ix ix_tupH (qpe_ix ix_tupH (qpv 0) qpe_int (fun _ _ => rfl)) qpe_int (fun _ _ => rfl))) (qpe_op op_mulB (qpe_ix ix_tupH (qpe_ix ix_tupH (qpv 0) qpe_int (fun _ _ => rfl)) qpe_int (fun _ _ => rfl)) (qpe_ix ix_tupH (qpv 1) qpe_int (fun _ _ => rfl))) (nomark _))))
    , ?_⟩
  clear  qpss2 qps_if qpt_cmpR qpe_op qpe_ix qpv qpe_int qpss_one qps_ret qpe_bl qpss_nil qpe_cmpR QE QT QW QA QS QSs QG QGs QI QO QIf
  simp only [tSeq, tNext, tRet, tRetN, tIfS, tAsg, gName, tDrop, tVar, tC, tOp, tUn, rI, rI0, rU, rEq, rNe, tTest, tB, tNot, tAnd, tOr, tAndV, tOrV, tNotV, tIf, tCB, tCall, tNil, tCons, tTup, tLst, gTup, gCons, gNil, L2.start, rIsi, rIxT, rIxL, cx_K, tyN_non, tyN_bl, tyN_int, tyN_str, isi_ii, isi_ib, isi_it, isi_il, isi_bi, isi_bb, isi_tt, isi_ni, isi_si, isi_ti, isi_li, isi_di, isi_ll, scal_ii, scal_bb, sz0, sz1, sz2, sz3, sz4, List.map_cons, List.map_nil, List.length_cons, List.length_nil, List.replicate, List.cons_append, List.nil_append, List.append_nil, List.getElem?_cons_zero, List.getElem?_cons_succ, List.set_cons_zero, List.set_cons_succ, Option.some.injEq, V.int.injEq, V.bl.injEq, V.ref.injEq, V.ty.injEq, List.cons.injEq, and_true, true_and, exists_eq_left, exists_eq_left', exists_and_left, exists_and_right, exists_eq, exists_eq', and_assoc, Nat.reduceAdd, Nat.reduceSub, Bool.not_true, Bool.not_false, Bool.false_eq_true, if_true, if_false, reduceIte, Nat.zero_add, decide_true, decide_false, selC, comp_K, tYes, Option.join_some, rIxTH, rIxLH, rLenH, rIsiF, at0, at1, at2, at3, at4, at5, at6, at7, at8, HO.tup.injEq, HO.lst.injEq, reduceCtorEq, false_or, or_false, tyF_non, tyF_bl, tyF_int, tyF_str, exists_const, Int.reduceAdd, Int.reduceMul, Int.reduceSub, gSub, rSetL, tSl, tPart, tNoPart, rSlH, upd_same, upd_upd, rIntB, rListH, tBM, tBM0, rAppend, rClear, tPar, gTupH, hp, ha.1, hb.1, hq.1]
  unfold spansB at k
  refine ⟨cbig hq.2.1 ha.2.2.2, cbig ha.2.1 hq.2.2.2, ite2 (fun c => ?_) (fun c => ⟨cbig hq.2.1 hb.2.2.2, cbig hb.2.1 hq.2.2.2, ?_⟩)⟩
  · rw [if_pos (of_decide_eq_true c)] at k
    exact k
  · rw [if_neg (fun z => c (decide_eq_true z))] at k
    exact k
theorem ok_above (T : Txt K mg ad fd) : FnOk P w K mg base CX0 4 (ad 14) (fd 14) ["stretches", "P"] sp_above := by
  refine T.above.fn.ok sc_above (fun vs H Q E h => ?_) (fun cdv A outer s H vs Q E hr h => ?_)
  · obtain ⟨l, q, ys, ds, x, y, w, rfl, _⟩ := h
    rfl
  obtain ⟨l, q, ys, ds, x, y, w, rfl, hl, hz, hs, hq, k⟩ := h
  have qpss_one := @pss_one
  have qps_ret := @ps_ret
  have qpe_callB := @pe_callB
  have qpa1 := @pa1
  have qpe_comp := @pe_comp
  unfold L2.CompBody at qpe_comp
  have qpi_list := @pi_list
  have qpv := @pv
  have qpg_name := @pg_name
  have qpif_one := @pif_one
  have qPWpt := @PW.pt
  have qpw_and := @pw_and
  have qpt_val := @pt_val
  have qpe_call := @pe_call
  have qpa2 := @pa2
  have qpw_and1 := @pw_and1
  have qpt_cmpR := @pt_cmpR
  have qpa3 := @pa3
  have qpe_ix := @pe_ix
  have qpe_int := @pe_int
  generalize @L2.PE = QE, @L2.PT = QT, @L2.PW = QW, @L2.PA = QA, @L2.PS = QS, @L2.PSs = QSs, @L2.PG = QG, @L2.PGs = QGs, @L2.PI = QI, @L2.PO = QO, @L2.PIf = QIf at qpss_one qps_ret qpe_callB qpa1 qpe_comp qpi_list qpv qpg_name qpif_one qPWpt qpw_and qpt_val qpe_call qpa2 qpw_and1 qpt_cmpR qpa3 qpe_ix qpe_int ⊢
  refine ⟨_,
    (qpss_one (qps_ret (qpe_callB call_lenH rfl T.b_len bt_len (qpa1 (qpe_comp (dsc := defScope s_above) (N := ["stretches", "P"]) (own := ["S"]) (ix := [1]) rfl rfl rfl ⟨rfl, by decide +kernel, by decide +kernel, by decide +kernel, by decide +kernel⟩ (qpi_list (qpv 0)) (fun cl C fp s2 H2 xe => ⟨(qpg_name (i := 0) (show List.Nodup (["S", "P"] : List Str) from by decide +kernel) rfl (Or.inl rfl)), (qpif_one (qPWpt (qpw_and (qpt_val (qpe_call (ok_spans T) (hr.mono (by decide)) rfl T.spans.mg T.spans.fn.kp T.spans.bn .nil pass0 (qpa2 (qpv 0) ns_Name (qpv 1) ns_Name))) (qpw_and1 (qpt_cmpR op_lt (qpe_call (ok_turn T) (hr.mono (by decide)) rfl T.turn.mg T.turn.fn.kp T.turn.bn .nil pass0 (qpa3 (qpe_ix ix_tupH (qpv 0) qpe_int (fun _ _ => rfl)) ns_Subscript (qpe_ix ix_tupH (qpv 0) qpe_int (fun _ _ => rfl)) ns_Subscript (qpv 1) ns_Name)) qpe_int (nomark _)))))), (qpv 0)⟩)) ns_ListComp))))
    , ?_⟩
  clear  qpss_one qps_ret qpe_callB qpa1 qpe_comp qpi_list qpv qpg_name qpif_one qPWpt qpw_and qpt_val qpe_call qpa2 qpw_and1 qpt_cmpR qpa3 qpe_ix qpe_int QE QT QW QA QS QSs QG QGs QI QO QIf
  simp only [tSeq, tAsg, L2.start, cx_K, List.map_cons, List.map_nil, List.length_cons, List.length_nil, List.replicate, List.cons_append, List.nil_append, Nat.reduceAdd, Nat.reduceSub, Nat.zero_add, tRet, tCB, tCons, tNil]
  refine tComp_mk ?_
  refine ⟨_, rfl, l, rfl, ⟨_, .of hl⟩, fun D hD => ?_⟩
  refine comp_list (xs := ys) (fun i zs H' => Same H H' ∧ H' D = some (.lst zs) ∧ zs.length = cntAb (ds.take i) x y w ∧ zs.length ≤ i) ⟨same_new hD _, upd_same, rfl, Nat.zero_le _⟩ (fun i zs H' p => .of (p.1 _ _ hl)) ?_ ?_
  · rintro i zs H2 v hi hv ⟨g2, hD2, hn, hle⟩
    obtain ⟨p, d, rfl, hd, hp⟩ := hs.2 i v hv
    have hp2 := hp.ts (ts_same g2)
    have hq2 := hq.same g2
    have ct := cnt_take x y w hd
    simp only [tSeq, tNext, tRet, tRetN, tIfS, tAsg, gName, tDrop, tVar, tC, tOp, tUn, rI, rI0, rU, rEq, rNe, tTest, tB, tNot, tAnd, tOr, tAndV, tOrV, tNotV, tIf, tCB, tCall, tNil, tCons, tTup, tLst, gTup, gCons, gNil, L2.start, rIsi, rIxT, rIxL, cx_K, tyN_non, tyN_bl, tyN_int, tyN_str, isi_ii, isi_ib, isi_it, isi_il, isi_bi, isi_bb, isi_tt, isi_ni, isi_si, isi_ti, isi_li, isi_di, isi_ll, scal_ii, scal_bb, sz0, sz1, sz2, sz3, sz4, List.map_cons, List.map_nil, List.length_cons, List.length_nil, List.replicate, List.cons_append, List.nil_append, List.append_nil, List.getElem?_cons_zero, List.getElem?_cons_succ, List.set_cons_zero, List.set_cons_succ, Option.some.injEq, V.int.injEq, V.bl.injEq, V.ref.injEq, V.ty.injEq, List.cons.injEq, and_true, true_and, exists_eq_left, exists_eq_left', exists_and_left, exists_and_right, exists_eq, exists_eq', and_assoc, Nat.reduceAdd, Nat.reduceSub, Bool.not_true, Bool.not_false, Bool.false_eq_true, if_true, if_false, reduceIte, Nat.zero_add, decide_true, decide_false, selC, comp_K, tYes, Option.join_some, rIxTH, rIxLH, rLenH, rIsiF, at0, at1, at2, at3, at4, at5, at6, at7, at8, HO.tup.injEq, HO.lst.injEq, reduceCtorEq, false_or, or_false, tyF_non, tyF_bl, tyF_int, tyF_str, exists_const, Int.reduceAdd, Int.reduceMul, Int.reduceSub, gSub, rSetL, tSl, tPart, tNoPart, rSlH, upd_same, upd_upd, rIntB, rListH, tBM, tBM0, rAppend, rClear, tPar, gTupH]
    obtain ⟨a, b, ha, hA, hB⟩ := id hp2
    refine ⟨p, q, d, x, y, w, rfl, hp2, hq2, _, rfl, ite2 (fun c => ?_) (fun c => ?_)⟩
    · simp only [tSeq, tNext, tRet, tRetN, tIfS, tAsg, gName, tDrop, tVar, tC, tOp, tUn, rI, rI0, rU, rEq, rNe, tTest, tB, tNot, tAnd, tOr, tAndV, tOrV, tNotV, tIf, tCB, tCall, tNil, tCons, tTup, tLst, gTup, gCons, gNil, L2.start, rIsi, rIxT, rIxL, cx_K, tyN_non, tyN_bl, tyN_int, tyN_str, isi_ii, isi_ib, isi_it, isi_il, isi_bi, isi_bb, isi_tt, isi_ni, isi_si, isi_ti, isi_li, isi_di, isi_ll, scal_ii, scal_bb, sz0, sz1, sz2, sz3, sz4, List.map_cons, List.map_nil, List.length_cons, List.length_nil, List.replicate, List.cons_append, List.nil_append, List.append_nil, List.getElem?_cons_zero, List.getElem?_cons_succ, List.set_cons_zero, List.set_cons_succ, Option.some.injEq, V.int.injEq, V.bl.injEq, V.ref.injEq, V.ty.injEq, List.cons.injEq, and_true, true_and, exists_eq_left, exists_eq_left', exists_and_left, exists_and_right, exists_eq, exists_eq', and_assoc, Nat.reduceAdd, Nat.reduceSub, Bool.not_true, Bool.not_false, Bool.false_eq_true, if_true, if_false, reduceIte, Nat.zero_add, decide_true, decide_false, selC, comp_K, tYes, Option.join_some, rIxTH, rIxLH, rLenH, rIsiF, at0, at1, at2, at3, at4, at5, at6, at7, at8, HO.tup.injEq, HO.lst.injEq, reduceCtorEq, false_or, or_false, tyF_non, tyF_bl, tyF_int, tyF_str, exists_const, Int.reduceAdd, Int.reduceMul, Int.reduceSub, gSub, rSetL, tSl, tPart, tNoPart, rSlH, upd_same, upd_upd, rIntB, rListH, tBM, tBM0, rAppend, rClear, tPar, gTupH, ha]
      refine ⟨a, b, q, _, _, _, _, _, _, x, y, w, rfl, hA, hB, hq2.mono, fun H3 g3' => ⟨_, rfl, ite2 (fun c2 => ?_) (fun c2 => ?_)⟩⟩
      · have ea : abv x y w d = true := by unfold abv; rw [c, decide_eq_true (sgn_lt.mp (of_decide_eq_true c2))]; rfl
        refine cw_put hi (g3' _ _ hD2) (Nat.lt_of_le_of_lt hle (Nat.lt_trans hi (Nat.lt_trans hz (by decide)))) ⟨same_put (g2.trans g3') hD, upd_same, ?_, ?_⟩
        · rw [ct, if_pos ea, List.length_append, hn]; rfl
        · rw [List.length_append]; exact Nat.succ_le_succ hle
      · have ea : ¬ abv x y w d = true := by
          unfold abv
          rw [c, Bool.true_and]
          exact fun z => c2 (decide_eq_true (sgn_lt.mpr (of_decide_eq_true z)))
        exact cw_skip hi ⟨g2.trans g3', g3' _ _ hD2, by rw [ct, if_neg ea, hn]; rfl, Nat.le_succ_of_le hle⟩
    · have ea : ¬ abv x y w d = true := by
        unfold abv
        intro z
        rw [Bool.and_eq_true] at z
        exact c z.1
      exact cw_skip hi ⟨g2, hD2, by rw [ct, if_neg ea, hn]; rfl, Nat.le_succ_of_le hle⟩
  · rintro zs H2 ⟨g2, hD2, hn, hle⟩
    simp only [tSeq, tNext, tRet, tRetN, tIfS, tAsg, gName, tDrop, tVar, tC, tOp, tUn, rI, rI0, rU, rEq, rNe, tTest, tB, tNot, tAnd, tOr, tAndV, tOrV, tNotV, tIf, tCB, tCall, tNil, tCons, tTup, tLst, gTup, gCons, gNil, L2.start, rIsi, rIxT, rIxL, cx_K, tyN_non, tyN_bl, tyN_int, tyN_str, isi_ii, isi_ib, isi_it, isi_il, isi_bi, isi_bb, isi_tt, isi_ni, isi_si, isi_ti, isi_li, isi_di, isi_ll, scal_ii, scal_bb, sz0, sz1, sz2, sz3, sz4, List.map_cons, List.map_nil, List.length_cons, List.length_nil, List.replicate, List.cons_append, List.nil_append, List.append_nil, List.getElem?_cons_zero, List.getElem?_cons_succ, List.set_cons_zero, List.set_cons_succ, Option.some.injEq, V.int.injEq, V.bl.injEq, V.ref.injEq, V.ty.injEq, List.cons.injEq, and_true, true_and, exists_eq_left, exists_eq_left', exists_and_left, exists_and_right, exists_eq, exists_eq', and_assoc, Nat.reduceAdd, Nat.reduceSub, Bool.not_true, Bool.not_false, Bool.false_eq_true, if_true, if_false, reduceIte, Nat.zero_add, decide_true, decide_false, selC, comp_K, tYes, Option.join_some, rIxTH, rIxLH, rLenH, rIsiF, at0, at1, at2, at3, at4, at5, at6, at7, at8, HO.tup.injEq, HO.lst.injEq, reduceCtorEq, false_or, or_false, tyF_non, tyF_bl, tyF_int, tyF_str, exists_const, Int.reduceAdd, Int.reduceMul, Int.reduceSub, gSub, rSetL, tSl, tPart, tNoPart, rSlH, upd_same, upd_upd, rIntB, rListH, tBM, tBM0, rAppend, rClear, tPar, gTupH, hD2]
    rw [hn, hs.1, List.take_length]
    exact k H2 g2
theorem ok_law_cell_at (T : Txt K mg ad fd) : FnOk P w K mg base CX0 1 (ad 18) (fd 18) ["_law_script", "_law_k"] (sp_cell K) := by
  refine T.law_cell_at.fn.ok sc_law_cell_at (fun vs H Q E h => ?_) (fun cdv A outer s H vs Q E hr h => ?_)
  · obtain ⟨l, ns, k, rfl, _⟩ := h
    rfl
  obtain ⟨l, ns, k, rfl, hl, h0, q⟩ := h
  have qpss2 := @pss2
  have qps_if := @ps_if
  have qpt_cmpR := @pt_cmpR
  have qpv := @pv
  have qpe_callB := @pe_callB
  have qpa1 := @pa1
  have qpss_one := @pss_one
  have qps_ret := @ps_ret
  have qpe_ix := @pe_ix
  have qpss_nil := @pss_nil
  have qpe_int := @pe_int
  generalize @L2.PE = QE, @L2.PT = QT, @L2.PW = QW, @L2.PA = QA, @L2.PS = QS, @L2.PSs = QSs, @L2.PG = QG, @L2.PGs = QGs, @L2.PI = QI, @L2.PO = QO, @L2.PIf = QIf at qpss2 qps_if qpt_cmpR qpv qpe_callB qpa1 qpss_one qps_ret qpe_ix qpss_nil qpe_int ⊢
  refine ⟨_,
    (qpss2
      (qps_if (qpt_cmpR op_lt (qpv 1) (qpe_callB call_len_seq rfl T.b_len bt_len (qpa1 (qpv 0) ns_Name)) (nomark _)) (qpss_one (qps_ret (qpe_ix ix_list (qpv 0) (qpv 1) (fun _ _ => rfl)))) qpss_nil)
      (qps_ret qpe_int))
    , ?_⟩
  clear  qpss2 qps_if qpt_cmpR qpv qpe_callB qpa1 qpss_one qps_ret qpe_ix qpss_nil qpe_int QE QT QW QA QS QSs QG QGs QI QO QIf
  simp only [tSeq, tNext, tRet, tRetN, tIfS, tAsg, gName, tDrop, tVar, tC, tOp, tUn, rI, rI0, rU, rEq, rNe, tTest, tB, tNot, tAnd, tOr, tAndV, tOrV, tNotV, tIf, tCB, tCall, tNil, tCons, tTup, tLst, gTup, gCons, gNil, L2.start, rIsi, rIxT, rIxL, cx_K, tyN_non, tyN_bl, tyN_int, tyN_str, isi_ii, isi_ib, isi_it, isi_il, isi_bi, isi_bb, isi_tt, isi_ni, isi_si, isi_ti, isi_li, isi_di, isi_ll, scal_ii, scal_bb, sz0, sz1, sz2, sz3, sz4, List.map_cons, List.map_nil, List.length_cons, List.length_nil, List.replicate, List.cons_append, List.nil_append, List.append_nil, List.getElem?_cons_zero, List.getElem?_cons_succ, List.set_cons_zero, List.set_cons_succ, Option.some.injEq, V.int.injEq, V.bl.injEq, V.ref.injEq, V.ty.injEq, List.cons.injEq, and_true, true_and, exists_eq_left, exists_eq_left', exists_and_left, exists_and_right, exists_eq, exists_eq', and_assoc, Nat.reduceAdd, Nat.reduceSub, Bool.not_true, Bool.not_false, Bool.false_eq_true, if_true, if_false, reduceIte, Nat.zero_add, decide_true, decide_false]
  refine ⟨_, .inl hl, ?_⟩
  rw [List.length_map]
  refine ite2 (fun c => ?_) (fun c => ?_)
  · have c' : k < (ns.length : Int) := of_decide_eq_true c
    have hk : k.toNat < ns.length := by omega
    refine ⟨_, hl, _, ?_, q⟩
    have ek : k = ((k.toNat : Nat) : Int) := by omega
    have z : atI (ns.map V.int) ((k.toNat : Nat) : Int) = some (.int (ns.getD k.toNat 0)) := atI_nat (by
      rw [List.getElem?_map, List.getElem?_eq_getElem hk, List.getD_eq_getElem?_getD, List.getElem?_eq_getElem hk] <;> rfl)
    rw [← ek] at z
    exact z
  · have c' : ¬ k < (ns.length : Int) := fun z => c (decide_eq_true z)
    have e : ns.getD k.toNat 0 = 0 := by rw [List.getD_eq_getElem?_getD, List.getElem?_eq_none (by omega)]; rfl
    rw [e] at q
    exact q
theorem ok_law_whole (T : Txt K mg ad fd) : FnOk P w K mg base CX0 1 (ad 19) (fd 19) ["_law_found"] sp_whole := by
  refine T.law_whole.fn.ok sc_law_whole (fun vs H Q E h => ?_) (fun cdv A outer s H vs Q E hr h => ?_)
  · obtain ⟨i, rfl, _⟩ := h
    rfl
  obtain ⟨i, rfl, q⟩ := h
  have qpss_one := @pss_one
  have qps_ret := @ps_ret
  have qpe_and := @pe_and
  have qpe_callB := @pe_callB
  have qpa2 := @pa2
  have qpv := @pv
  have qpe_bltn := @pe_bltn
  have qpe_one := @pe_one
  have qpe_not := @pe_not
  generalize @L2.PE = QE, @L2.PT = QT, @L2.PW = QW, @L2.PA = QA, @L2.PS = QS, @L2.PSs = QSs, @L2.PG = QG, @L2.PGs = QGs, @L2.PI = QI, @L2.PO = QO, @L2.PIf = QIf at qpss_one qps_ret qpe_and qpe_callB qpa2 qpv qpe_bltn qpe_one qpe_not ⊢
  refine ⟨_,
    (qpss_one (qps_ret (qpe_and (qpe_callB (isiF call_isi_int) rfl T.b_isinstance bt_isinstance (qpa2 (qpv 0) ns_Name (qpe_bltn (v := .ty "int") rfl T.b_int bt_int rfl) ns_Name)) (qpe_one (qpe_not (qpe_callB (isiF call_isi_bool) rfl T.b_isinstance bt_isinstance (qpa2 (qpv 0) ns_Name (qpe_bltn (v := .ty "bool") rfl T.b_bool bt_bool rfl) ns_Name)))))))
    , ?_⟩
  clear  qpss_one qps_ret qpe_and qpe_callB qpa2 qpv qpe_bltn qpe_one qpe_not QE QT QW QA QS QSs QG QGs QI QO QIf
  simp only [tSeq, tNext, tRet, tRetN, tIfS, tAsg, gName, tDrop, tVar, tC, tOp, tUn, rI, rI0, rU, rEq, rNe, tTest, tB, tNot, tAnd, tOr, tAndV, tOrV, tNotV, tIf, tCB, tCall, tNil, tCons, tTup, tLst, gTup, gCons, gNil, L2.start, rIsi, rIxT, rIxL, cx_K, tyN_non, tyN_bl, tyN_int, tyN_str, isi_ii, isi_ib, isi_it, isi_il, isi_bi, isi_bb, isi_tt, isi_ni, isi_si, isi_ti, isi_li, isi_di, isi_ll, scal_ii, scal_bb, sz0, sz1, sz2, sz3, sz4, List.map_cons, List.map_nil, List.length_cons, List.length_nil, List.replicate, List.cons_append, List.nil_append, List.append_nil, List.getElem?_cons_zero, List.getElem?_cons_succ, List.set_cons_zero, List.set_cons_succ, Option.some.injEq, V.int.injEq, V.bl.injEq, V.ref.injEq, V.ty.injEq, List.cons.injEq, and_true, true_and, exists_eq_left, exists_eq_left', exists_and_left, exists_and_right, exists_eq, exists_eq', and_assoc, Nat.reduceAdd, Nat.reduceSub, Bool.not_true, Bool.not_false, Bool.false_eq_true, if_true, if_false, reduceIte, Nat.zero_add, decide_true, decide_false, selC, comp_K, tYes, Option.join_some, rIxTH, rIxLH, rLenH, rIsiF, at0, at1, at2, at3, at4, at5, at6, at7, at8, HO.tup.injEq, HO.lst.injEq, reduceCtorEq, false_or, or_false, tyF_non, tyF_bl, tyF_int, tyF_str, exists_const, Int.reduceAdd, Int.reduceMul, Int.reduceSub, gSub, rSetL, tSl, tPart, tNoPart, rSlH, upd_same, upd_upd, rIntB, rListH, tBM, tBM0, rAppend, rClear, tPar, gTupH]
  exact q
theorem okr_law_alike (T : Txt K mg ad fd) : ∀ n, FnOk P w K mg base CX0 (n + 1) (ad 30) (fd 30) ["_law_found", "_law_due_here"] (sp_alike n) := by
  intro n
  induction n with
  | zero => exact ⟨fun vs H Q E h => (sp_alike_zero h).elim, fun A outer s H args us vs Q E hr e0 bt rv h => (sp_alike_zero h).elim⟩
  | succ n ih =>
  refine T.law_alike.fn.ok sc_law_alike (fun vs H Q E h => ?_) (fun cdv A outer s H vs Q E hr h => ?_)
  · obtain ⟨x, y, rfl, _⟩ := h
    rfl
  obtain ⟨x, y, rfl, hal, q⟩ := h
  obtain ⟨tl, htl, hk⟩ : ∃ tl, PSs (cxOf CX0 P w K mg base ["_law_found", "_law_due_here", "_law_k"] "_law_alike" (defScope s_law_alike) (ad 30) cdv A outer s H E).nox ((defBody s_law_alike).drop 3) tl ∧ ∀ (p q : Addr) (xs ys : List V) (o : Option V), (H p = some (.lst xs) ∨ H p = some (.tup xs)) → (H q = some (.lst ys) ∨ H q = some (.tup ys)) → xs.length = ys.length → ys.length ≤ 1000 → (∀ (j : Nat) (u v : V), xs[j]? = some u → ys[j]? = some v → Al n H u v) →
      tl { nx := fun _ H' => Q .non H', rt := Q } [some (.ref p), some (.ref q), o] H := by
    have qpss3 := @pss3
    have qps_if := @ps_if
    have qpt_cmpR := @pt_cmpR
    have qpe_callB := @pe_callB
    have qpa1 := @pa1
    have qpv := @pv
    have qpss_one := @pss_one
    have qps_ret := @ps_ret
    have qpe_bl := @pe_bl
    have qpss_nil := @pss_nil
    have qps_for := @ps_for
    have qpi_range1 := @pi_range1
    have qpg_name := @pg_name
    have qpt_not := @pt_not
    have qpt_val := @pt_val
    have qpe_call := @pe_call
    have qpa2 := @pa2
    have qpe_ix := @pe_ix
    generalize @L2.PE = QE, @L2.PT = QT, @L2.PW = QW, @L2.PA = QA, @L2.PS = QS, @L2.PSs = QSs, @L2.PG = QG, @L2.PGs = QGs, @L2.PI = QI, @L2.PO = QO, @L2.PIf = QIf at qpss3 qps_if qpt_cmpR qpe_callB qpa1 qpv qpss_one qps_ret qpe_bl qpss_nil qps_for qpi_range1 qpg_name qpt_not qpt_val qpe_call qpa2 qpe_ix ⊢
    refine ⟨_,
    (qpss3
      (qps_if (qpt_cmpR op_ne (qpe_callB call_lenH rfl T.b_len bt_len (qpa1 (qpv 0) ns_Name)) (qpe_callB call_lenH rfl T.b_len bt_len (qpa1 (qpv 1) ns_Name)) (nomark _)) (qpss_one (qps_ret qpe_bl)) qpss_nil)
      (qps_for PassesOwn.never rfl (qpi_range1 rfl T.b_range (qpa1 (qpe_callB call_lenH rfl T.b_len bt_len (qpa1 (qpv 1) ns_Name)) ns_Call)) (qpg_name (i := 2) sc_law_alike.nd rfl (Or.inl rfl)) (qpss_one (qps_if (qpt_not (qpt_val (qpe_call ih (hr.mono (by omega)) rfl T.law_alike.mg T.law_alike.fn.kp T.law_alike.bn .nil pass0 (qpa2 (qpe_ix ix_any (qpv 0) (qpv 2) (fun _ _ => rfl)) ns_Subscript (qpe_ix ix_any (qpv 1) (qpv 2) (fun _ _ => rfl)) ns_Subscript)))) (qpss_one (qps_ret qpe_bl)) qpss_nil)))
      (qps_ret qpe_bl))
      , fun p q' xs ys o hp hq hlen hz hit => ?_⟩
    clear  qpss3 qps_if qpt_cmpR qpe_callB qpa1 qpv qpss_one qps_ret qpe_bl qpss_nil qps_for qpi_range1 qpg_name qpt_not qpt_val qpe_call qpa2 qpe_ix QE QT QW QA QS QSs QG QGs QI QO QIf
    simp only [tSeq, tNext, tRet, tRetN, tIfS, tAsg, gName, tDrop, tVar, tC, tOp, tUn, rI, rI0, rU, rEq, rNe, tTest, tB, tNot, tAnd, tOr, tAndV, tOrV, tNotV, tIf, tCB, tCall, tNil, tCons, tTup, tLst, gTup, gCons, gNil, L2.start, rIsi, rIxT, rIxL, cx_K, tyN_non, tyN_bl, tyN_int, tyN_str, isi_ii, isi_ib, isi_it, isi_il, isi_bi, isi_bb, isi_tt, isi_ni, isi_si, isi_ti, isi_li, isi_di, isi_ll, scal_ii, scal_bb, sz0, sz1, sz2, sz3, sz4, List.map_cons, List.map_nil, List.length_cons, List.length_nil, List.replicate, List.cons_append, List.nil_append, List.append_nil, List.getElem?_cons_zero, List.getElem?_cons_succ, List.set_cons_zero, List.set_cons_succ, Option.some.injEq, V.int.injEq, V.bl.injEq, V.ref.injEq, V.ty.injEq, List.cons.injEq, and_true, true_and, exists_eq_left, exists_eq_left', exists_and_left, exists_and_right, exists_eq, exists_eq', and_assoc, Nat.reduceAdd, Nat.reduceSub, Bool.not_true, Bool.not_false, Bool.false_eq_true, if_true, if_false, reduceIte, Nat.zero_add, decide_true, decide_false, selC, comp_K, tYes, Option.join_some, rIxTH, rIxLH, rLenH, rIsiF, at0, at1, at2, at3, at4, at5, at6, at7, at8, HO.tup.injEq, HO.lst.injEq, reduceCtorEq, false_or, or_false, tyF_non, tyF_bl, tyF_int, tyF_str, exists_const, Int.reduceAdd, Int.reduceMul, Int.reduceSub, gSub, rSetL, tSl, tPart, tNoPart, rSlH, upd_same, upd_upd, rIntB, rListH, tBM, tBM0, rAppend, rClear, tPar, gTupH]
    refine ⟨xs, hp, ys, hq, ite2 (fun c => absurd c (by rw [hlen]; simp)) (fun _ => ?_)⟩
    refine tFor_mk ?_
    simp only [iRng1, tSeq, tNext, tRet, tRetN, tIfS, tAsg, gName, tDrop, tVar, tC, tOp, tUn, rI, rI0, rU, rEq, rNe, tTest, tB, tNot, tAnd, tOr, tAndV, tOrV, tNotV, tIf, tCB, tCall, tNil, tCons, tTup, tLst, gTup, gCons, gNil, L2.start, rIsi, rIxT, rIxL, cx_K, tyN_non, tyN_bl, tyN_int, tyN_str, isi_ii, isi_ib, isi_it, isi_il, isi_bi, isi_bb, isi_tt, isi_ni, isi_si, isi_ti, isi_li, isi_di, isi_ll, scal_ii, scal_bb, sz0, sz1, sz2, sz3, sz4, List.map_cons, List.map_nil, List.length_cons, List.length_nil, List.replicate, List.cons_append, List.nil_append, List.append_nil, List.getElem?_cons_zero, List.getElem?_cons_succ, List.set_cons_zero, List.set_cons_succ, Option.some.injEq, V.int.injEq, V.bl.injEq, V.ref.injEq, V.ty.injEq, List.cons.injEq, and_true, true_and, exists_eq_left, exists_eq_left', exists_and_left, exists_and_right, exists_eq, exists_eq', and_assoc, Nat.reduceAdd, Nat.reduceSub, Bool.not_true, Bool.not_false, Bool.false_eq_true, if_true, if_false, reduceIte, Nat.zero_add, decide_true, decide_false, selC, comp_K, tYes, Option.join_some, rIxTH, rIxLH, rLenH, rIsiF, at0, at1, at2, at3, at4, at5, at6, at7, at8, HO.tup.injEq, HO.lst.injEq, reduceCtorEq, false_or, or_false, tyF_non, tyF_bl, tyF_int, tyF_str, exists_const, Int.reduceAdd, Int.reduceMul, Int.reduceSub, gSub, rSetL, tSl, tPart, tNoPart, rSlH, upd_same, upd_upd, rIntB, rListH, tBM, tBM0, rAppend, rClear, tPar, gTupH]
    refine ⟨ys, hq, by omega, by omega, for_range (n := ((ys.length : Int)).toNat) (fun _ σ H' => H' = H ∧ ∃ o, σ = [some (.ref p), some (.ref q'), o]) ⟨rfl, o, rfl⟩ ?_ ?_⟩
    · rintro j σ H' hj ⟨rfl, o, rfl⟩
      have hj' : j < ys.length := by omega
      have hjx : j < xs.length := by omega
      have ex : xs[j]? = some xs[j] := List.getElem?_eq_getElem hjx
      have ey : ys[j]? = some ys[j] := List.getElem?_eq_getElem hj'
      simp only [tSeq, tNext, tRet, tRetN, tIfS, tAsg, gName, tDrop, tVar, tC, tOp, tUn, rI, rI0, rU, rEq, rNe, tTest, tB, tNot, tAnd, tOr, tAndV, tOrV, tNotV, tIf, tCB, tCall, tNil, tCons, tTup, tLst, gTup, gCons, gNil, L2.start, rIsi, rIxT, rIxL, cx_K, tyN_non, tyN_bl, tyN_int, tyN_str, isi_ii, isi_ib, isi_it, isi_il, isi_bi, isi_bb, isi_tt, isi_ni, isi_si, isi_ti, isi_li, isi_di, isi_ll, scal_ii, scal_bb, sz0, sz1, sz2, sz3, sz4, List.map_cons, List.map_nil, List.length_cons, List.length_nil, List.replicate, List.cons_append, List.nil_append, List.append_nil, List.getElem?_cons_zero, List.getElem?_cons_succ, List.set_cons_zero, List.set_cons_succ, Option.some.injEq, V.int.injEq, V.bl.injEq, V.ref.injEq, V.ty.injEq, List.cons.injEq, and_true, true_and, exists_eq_left, exists_eq_left', exists_and_left, exists_and_right, exists_eq, exists_eq', and_assoc, Nat.reduceAdd, Nat.reduceSub, Bool.not_true, Bool.not_false, Bool.false_eq_true, if_true, if_false, reduceIte, Nat.zero_add, decide_true, decide_false, selC, comp_K, tYes, Option.join_some, rIxTH, rIxLH, rLenH, rIsiF, at0, at1, at2, at3, at4, at5, at6, at7, at8, HO.tup.injEq, HO.lst.injEq, reduceCtorEq, false_or, or_false, tyF_non, tyF_bl, tyF_int, tyF_str, exists_const, Int.reduceAdd, Int.reduceMul, Int.reduceSub, gSub, rSetL, tSl, tPart, tNoPart, rSlH, upd_same, upd_upd, rIntB, rListH, tBM, tBM0, rAppend, rClear, tPar, gTupH, Int.zero_add]
      exact ⟨p, xs, _, _, rfl, rfl, hp, atI_nat ex, q', ys, _, _, rfl, rfl, hq, atI_nat ey, _, _, rfl, hit j _ _ ex ey, _, rfl, iteF rfl⟩
    · rintro σ H' ⟨rfl, o, rfl⟩
      simp only [tSeq, tNext, tRet, tRetN, tIfS, tAsg, gName, tDrop, tVar, tC, tOp, tUn, rI, rI0, rU, rEq, rNe, tTest, tB, tNot, tAnd, tOr, tAndV, tOrV, tNotV, tIf, tCB, tCall, tNil, tCons, tTup, tLst, gTup, gCons, gNil, L2.start, rIsi, rIxT, rIxL, cx_K, tyN_non, tyN_bl, tyN_int, tyN_str, isi_ii, isi_ib, isi_it, isi_il, isi_bi, isi_bb, isi_tt, isi_ni, isi_si, isi_ti, isi_li, isi_di, isi_ll, scal_ii, scal_bb, sz0, sz1, sz2, sz3, sz4, List.map_cons, List.map_nil, List.length_cons, List.length_nil, List.replicate, List.cons_append, List.nil_append, List.append_nil, List.getElem?_cons_zero, List.getElem?_cons_succ, List.set_cons_zero, List.set_cons_succ, Option.some.injEq, V.int.injEq, V.bl.injEq, V.ref.injEq, V.ty.injEq, List.cons.injEq, and_true, true_and, exists_eq_left, exists_eq_left', exists_and_left, exists_and_right, exists_eq, exists_eq', and_assoc, Nat.reduceAdd, Nat.reduceSub, Bool.not_true, Bool.not_false, Bool.false_eq_true, if_true, if_false, reduceIte, Nat.zero_add, decide_true, decide_false, selC, comp_K, tYes, Option.join_some, rIxTH, rIxLH, rLenH, rIsiF, at0, at1, at2, at3, at4, at5, at6, at7, at8, HO.tup.injEq, HO.lst.injEq, reduceCtorEq, false_or, or_false, tyF_non, tyF_bl, tyF_int, tyF_str, exists_const, Int.reduceAdd, Int.reduceMul, Int.reduceSub, gSub, rSetL, tSl, tPart, tNoPart, rSlH, upd_same, upd_upd, rIntB, rListH, tBM, tBM0, rAppend, rClear, tPar, gTupH]
      exact q
  have qpss_cons := @pss_cons
  have qps_if := @ps_if
  have qpt_val := @pt_val
  have qpe_callB := @pe_callB
  have qpa2 := @pa2
  have qpv := @pv
  have qpe_bltn := @pe_bltn
  have qpss_one := @pss_one
  have qps_ret := @ps_ret
  have qpe_and := @pe_and
  have qpe_one := @pe_one
  have qpe_cmpR := @pe_cmpR
  have qpss_nil := @pss_nil
  have qpe_call := @pe_call
  have qpa1 := @pa1
  have qpt_not := @pt_not
  have qpe_bl := @pe_bl
  generalize @L2.PE = QE, @L2.PT = QT, @L2.PW = QW, @L2.PA = QA, @L2.PS = QS, @L2.PSs = QSs, @L2.PG = QG, @L2.PGs = QGs, @L2.PI = QI, @L2.PO = QO, @L2.PIf = QIf at qpss_cons qps_if qpt_val qpe_callB qpa2 qpv qpe_bltn qpss_one qps_ret qpe_and qpe_one qpe_cmpR qpss_nil qpe_call qpa1 qpt_not qpe_bl htl ⊢
  refine ⟨_,
    (qpss_cons (qps_if (qpt_val (qpe_callB (isiF call_isi_bool) rfl T.b_isinstance bt_isinstance (qpa2 (qpv 1) ns_Name (qpe_bltn (v := .ty "bool") rfl T.b_bool bt_bool rfl) ns_Name))) (qpss_one (qps_ret (qpe_and (qpe_callB (isiF call_isi_bool) rfl T.b_isinstance bt_isinstance (qpa2 (qpv 0) ns_Name (qpe_bltn (v := .ty "bool") rfl T.b_bool bt_bool rfl) ns_Name)) (qpe_one (qpe_cmpR op_eq (qpv 0) (qpv 1) (nomark _)))))) qpss_nil)
      (qpss_cons (qps_if (qpt_val (qpe_callB (isiF call_isi_int) rfl T.b_isinstance bt_isinstance (qpa2 (qpv 1) ns_Name (qpe_bltn (v := .ty "int") rfl T.b_int bt_int rfl) ns_Name))) (qpss_one (qps_ret (qpe_and (qpe_call (ok_law_whole T) (hr.mono (by omega)) rfl T.law_whole.mg T.law_whole.fn.kp T.law_whole.bn .nil pass0 (qpa1 (qpv 0) ns_Name)) (qpe_one (qpe_cmpR op_eq (qpv 0) (qpv 1) (nomark _)))))) qpss_nil)
      (qpss_cons (qps_if (qpt_val (qpe_callB (isiF call_isi_tuple) rfl T.b_isinstance bt_isinstance (qpa2 (qpv 1) ns_Name (qpe_bltn (v := .ty "tuple") rfl T.b_tuple bt_tuple rfl) ns_Name))) (qpss_one (qps_if (qpt_not (qpt_val (qpe_callB (isiF call_isi_tuple) rfl T.b_isinstance bt_isinstance (qpa2 (qpv 0) ns_Name (qpe_bltn (v := .ty "tuple") rfl T.b_tuple bt_tuple rfl) ns_Name)))) (qpss_one (qps_ret qpe_bl)) qpss_nil)) (qpss_one (qps_if (qpt_not (qpt_val (qpe_callB (isiF call_isi_list) rfl T.b_isinstance bt_isinstance (qpa2 (qpv 0) ns_Name (qpe_bltn (v := .ty "list") rfl T.b_list bt_list rfl) ns_Name)))) (qpss_one (qps_ret qpe_bl)) qpss_nil)))
      htl)))
    , ?_⟩
  clear htl qpss_cons qps_if qpt_val qpe_callB qpa2 qpv qpe_bltn qpss_one qps_ret qpe_and qpe_one qpe_cmpR qpss_nil qpe_call qpa1 qpt_not qpe_bl QE QT QW QA QS QSs QG QGs QI QO QIf
  rcases hal with ⟨i, rfl, rfl⟩ | ⟨p, q', xs, ys, rfl, rfl, ht, hlen, hz, hit⟩
  · simp only [sp_whole, tSeq, tNext, tRet, tRetN, tIfS, tAsg, gName, tDrop, tVar, tC, tOp, tUn, rI, rI0, rU, rEq, rNe, tTest, tB, tNot, tAnd, tOr, tAndV, tOrV, tNotV, tIf, tCB, tCall, tNil, tCons, tTup, tLst, gTup, gCons, gNil, L2.start, rIsi, rIxT, rIxL, cx_K, tyN_non, tyN_bl, tyN_int, tyN_str, isi_ii, isi_ib, isi_it, isi_il, isi_bi, isi_bb, isi_tt, isi_ni, isi_si, isi_ti, isi_li, isi_di, isi_ll, scal_ii, scal_bb, sz0, sz1, sz2, sz3, sz4, List.map_cons, List.map_nil, List.length_cons, List.length_nil, List.replicate, List.cons_append, List.nil_append, List.append_nil, List.getElem?_cons_zero, List.getElem?_cons_succ, List.set_cons_zero, List.set_cons_succ, Option.some.injEq, V.int.injEq, V.bl.injEq, V.ref.injEq, V.ty.injEq, List.cons.injEq, and_true, true_and, exists_eq_left, exists_eq_left', exists_and_left, exists_and_right, exists_eq, exists_eq', and_assoc, Nat.reduceAdd, Nat.reduceSub, Bool.not_true, Bool.not_false, Bool.false_eq_true, if_true, if_false, reduceIte, Nat.zero_add, decide_true, decide_false, selC, comp_K, tYes, Option.join_some, rIxTH, rIxLH, rLenH, rIsiF, at0, at1, at2, at3, at4, at5, at6, at7, at8, HO.tup.injEq, HO.lst.injEq, reduceCtorEq, false_or, or_false, tyF_non, tyF_bl, tyF_int, tyF_str, exists_const, Int.reduceAdd, Int.reduceMul, Int.reduceSub, gSub, rSetL, tSl, tPart, tNoPart, rSlH, upd_same, upd_upd, rIntB, rListH, tBM, tBM0, rAppend, rClear, tPar, gTupH]
    exact q
  · rcases ht with ⟨hp, hq⟩ | ⟨hp, hq⟩
    · simp only [tSeq, tNext, tRet, tRetN, tIfS, tAsg, gName, tDrop, tVar, tC, tOp, tUn, rI, rI0, rU, rEq, rNe, tTest, tB, tNot, tAnd, tOr, tAndV, tOrV, tNotV, tIf, tCB, tCall, tNil, tCons, tTup, tLst, gTup, gCons, gNil, L2.start, rIsi, rIxT, rIxL, cx_K, tyN_non, tyN_bl, tyN_int, tyN_str, isi_ii, isi_ib, isi_it, isi_il, isi_bi, isi_bb, isi_tt, isi_ni, isi_si, isi_ti, isi_li, isi_di, isi_ll, scal_ii, scal_bb, sz0, sz1, sz2, sz3, sz4, List.map_cons, List.map_nil, List.length_cons, List.length_nil, List.replicate, List.cons_append, List.nil_append, List.append_nil, List.getElem?_cons_zero, List.getElem?_cons_succ, List.set_cons_zero, List.set_cons_succ, Option.some.injEq, V.int.injEq, V.bl.injEq, V.ref.injEq, V.ty.injEq, List.cons.injEq, and_true, true_and, exists_eq_left, exists_eq_left', exists_and_left, exists_and_right, exists_eq, exists_eq', and_assoc, Nat.reduceAdd, Nat.reduceSub, Bool.not_true, Bool.not_false, Bool.false_eq_true, if_true, if_false, reduceIte, Nat.zero_add, decide_true, decide_false, selC, comp_K, tYes, Option.join_some, rIxTH, rIxLH, rLenH, rIsiF, at0, at1, at2, at3, at4, at5, at6, at7, at8, HO.tup.injEq, HO.lst.injEq, reduceCtorEq, false_or, or_false, tyF_non, tyF_bl, tyF_int, tyF_str, exists_const, Int.reduceAdd, Int.reduceMul, Int.reduceSub, gSub, rSetL, tSl, tPart, tNoPart, rSlH, upd_same, upd_upd, rIntB, rListH, tBM, tBM0, rAppend, rClear, tPar, gTupH, tyF_tup hp, tyF_tup hq, isi_tb, isi_ti, isi_tt]
      exact hk p q' xs ys none (.inr hp) (.inr hq) hlen hz hit
    · simp only [tSeq, tNext, tRet, tRetN, tIfS, tAsg, gName, tDrop, tVar, tC, tOp, tUn, rI, rI0, rU, rEq, rNe, tTest, tB, tNot, tAnd, tOr, tAndV, tOrV, tNotV, tIf, tCB, tCall, tNil, tCons, tTup, tLst, gTup, gCons, gNil, L2.start, rIsi, rIxT, rIxL, cx_K, tyN_non, tyN_bl, tyN_int, tyN_str, isi_ii, isi_ib, isi_it, isi_il, isi_bi, isi_bb, isi_tt, isi_ni, isi_si, isi_ti, isi_li, isi_di, isi_ll, scal_ii, scal_bb, sz0, sz1, sz2, sz3, sz4, List.map_cons, List.map_nil, List.length_cons, List.length_nil, List.replicate, List.cons_append, List.nil_append, List.append_nil, List.getElem?_cons_zero, List.getElem?_cons_succ, List.set_cons_zero, List.set_cons_succ, Option.some.injEq, V.int.injEq, V.bl.injEq, V.ref.injEq, V.ty.injEq, List.cons.injEq, and_true, true_and, exists_eq_left, exists_eq_left', exists_and_left, exists_and_right, exists_eq, exists_eq', and_assoc, Nat.reduceAdd, Nat.reduceSub, Bool.not_true, Bool.not_false, Bool.false_eq_true, if_true, if_false, reduceIte, Nat.zero_add, decide_true, decide_false, selC, comp_K, tYes, Option.join_some, rIxTH, rIxLH, rLenH, rIsiF, at0, at1, at2, at3, at4, at5, at6, at7, at8, HO.tup.injEq, HO.lst.injEq, reduceCtorEq, false_or, or_false, tyF_non, tyF_bl, tyF_int, tyF_str, exists_const, Int.reduceAdd, Int.reduceMul, Int.reduceSub, gSub, rSetL, tSl, tPart, tNoPart, rSlH, upd_same, upd_upd, rIntB, rListH, tBM, tBM0, rAppend, rClear, tPar, gTupH, tyF_lst hp, tyF_lst hq, isi_lb, isi_li, isi_lt, isi_ll]
      exact hk p q' xs ys none (.inl hp) (.inl hq) hlen hz hit
theorem ok_law_alike (T : Txt K mg ad fd) : FnOk P w K mg base CX0 5 (ad 30) (fd 30) ["_law_found", "_law_due_here"] (sp_alike 4) := okr_law_alike T 4
theorem ok_fraction (T : Txt K mg ad fd) : FnOk P w K mg base CX0 2 (ad 2) (fd 2) ["top", "bottom"] sp_frI := by
  refine T.fraction.fn.ok sc_fraction (fun vs H Q E h => ?_) (fun cdv A outer s H vs Q E hr h => ?_)
  · obtain ⟨a, b, rfl, _⟩ := h
    rfl
  obtain ⟨a, b, rfl, hb, hz, q⟩ := h
  have qpss5 := @pss5
  have qps_if := @ps_if
  have qPWpt := @PW.pt
  have qpw_or := @pw_or
  have qpt_not := @pt_not
  have qpt_val := @pt_val
  have qpe_call := @pe_call
  have qpa1 := @pa1
  have qpv := @pv
  have qpw_or1 := @pw_or1
  have qpss_one := @pss_one
  have qps_never := @ps_never
  have qpss_nil := @pss_nil
  have qpt_cmpR := @pt_cmpR
  have qpe_int := @pe_int
  have qps_set := @ps_set
  have qpa2 := @pa2
  have qpe_un := @pe_un
  have qps_ret := @ps_ret
  have qpe_tup := @pe_tup
  have qpe_op := @pe_op
  generalize @L2.PE = QE, @L2.PT = QT, @L2.PW = QW, @L2.PA = QA, @L2.PS = QS, @L2.PSs = QSs, @L2.PG = QG, @L2.PGs = QGs, @L2.PI = QI, @L2.PO = QO, @L2.PIf = QIf at qpss5 qps_if qPWpt qpw_or qpt_not qpt_val qpe_call qpa1 qpv qpw_or1 qpss_one qps_never qpss_nil qpt_cmpR qpe_int qps_set qpa2 qpe_un qps_ret qpe_tup qpe_op ⊢
  refine ⟨_,
    (qpss5
      (qps_if (qPWpt (qpw_or (qpt_not (qpt_val (qpe_call (ok_is_whole T) (hr.mono (by decide)) rfl T.is_whole.mg T.is_whole.fn.kp T.is_whole.bn .nil pass0 (qpa1 (qpv 0) ns_Name)))) (qpw_or1 (qpt_not (qpt_val (qpe_call (ok_is_whole T) (hr.mono (by decide)) rfl T.is_whole.mg T.is_whole.fn.kp T.is_whole.bn .nil pass0 (qpa1 (qpv 1) ns_Name))))))) (qpss_one qps_never) qpss_nil)
      (qps_if (qpt_cmpR op_eq (qpv 1) qpe_int (nomark _)) (qpss_one qps_never) qpss_nil)
      (qps_set (i := 2) sc_fraction.nd rfl (Or.inl rfl) (qpe_call (ok_divisor T) (hr.mono (by decide)) rfl T.divisor.mg T.divisor.fn.kp T.divisor.bn .nil pass0 (qpa2 (qpv 0) ns_Name (qpv 1) ns_Name)))
      (qps_if (qpt_cmpR op_lt (qpv 1) qpe_int (nomark _)) (qpss_one (qps_set (i := 2) sc_fraction.nd rfl (Or.inl rfl) (qpe_un un_neg (qpv 2)))) qpss_nil)
      (qps_ret (qpe_tup (qpa2 (qpe_op op_fdivB (qpv 0) (qpv 2)) ns_BinOp (qpe_op op_fdivB (qpv 1) (qpv 2)) ns_BinOp))))
    , ?_⟩
  clear  qpss5 qps_if qPWpt qpw_or qpt_not qpt_val qpe_call qpa1 qpv qpw_or1 qpss_one qps_never qpss_nil qpt_cmpR qpe_int qps_set qpa2 qpe_un qps_ret qpe_tup qpe_op QE QT QW QA QS QSs QG QGs QI QO QIf
  simp only [sp_whole, sp_divisor, tSeq, tNext, tRet, tRetN, tIfS, tAsg, gName, tDrop, tVar, tC, tOp, tUn, rI, rI0, rU, rEq, rNe, tTest, tB, tNot, tAnd, tOr, tAndV, tOrV, tNotV, tIf, tCB, tCall, tNil, tCons, tTup, tLst, gTup, gCons, gNil, L2.start, rIsi, rIxT, rIxL, cx_K, tyN_non, tyN_bl, tyN_int, tyN_str, isi_ii, isi_ib, isi_it, isi_il, isi_bi, isi_bb, isi_tt, isi_ni, isi_si, isi_ti, isi_li, isi_di, isi_ll, scal_ii, scal_bb, sz0, sz1, sz2, sz3, sz4, List.map_cons, List.map_nil, List.length_cons, List.length_nil, List.replicate, List.cons_append, List.nil_append, List.append_nil, List.getElem?_cons_zero, List.getElem?_cons_succ, List.set_cons_zero, List.set_cons_succ, Option.some.injEq, V.int.injEq, V.bl.injEq, V.ref.injEq, V.ty.injEq, List.cons.injEq, and_true, true_and, exists_eq_left, exists_eq_left', exists_and_left, exists_and_right, exists_eq, exists_eq', and_assoc, Nat.reduceAdd, Nat.reduceSub, Bool.not_true, Bool.not_false, Bool.false_eq_true, if_true, if_false, reduceIte, Nat.zero_add, decide_true, decide_false, selC, comp_K, tYes, Option.join_some, rIxTH, rIxLH, rLenH, rIsiF, at0, at1, at2, at3, at4, at5, at6, at7, at8, HO.tup.injEq, HO.lst.injEq, reduceCtorEq, false_or, or_false, tyF_non, tyF_bl, tyF_int, tyF_str, exists_const, Int.reduceAdd, Int.reduceMul, Int.reduceSub, gSub, rSetL, tSl, tPart, tNoPart, rSlH, upd_same, upd_upd, rIntB, rListH, tBM, tBM0, rAppend, rClear, tPar, gTupH]
  have hg : (fac a b).natAbs < 2 ^ 8000 := Nat.lt_of_le_of_lt (fac_le hb) hz
  have hn := fac_ne (t := a) hb
  refine ite2 (fun c => absurd (of_decide_eq_true c) hb) (fun _ => ite2 (fun c => ?_) (fun c => ?_))
  · have ef : -G a b = fac a b := (if_pos (of_decide_eq_true c)).symm
    rw [ef]
    exact ⟨cdivb hn hg, cdivb hn hg, fun p hp => q p _ (same_new hp _) upd_same⟩
  · have ef : G a b = fac a b := (if_neg fun z => c (decide_eq_true z)).symm
    rw [ef]
    exact ⟨cdivb hn hg, cdivb hn hg, fun p hp => q p _ (same_new hp _) upd_same⟩
theorem frd_sz {D N t b : Int} (hD : SzD D) (hN : N.natAbs < 2 ^ 300) (h : FrD D N t b) : t.natAbs < 2 ^ 300 ∧ b.natAbs < 2 ^ 300 := by
  obtain ⟨h1, h2⟩ := h.le hD.pos
  exact ⟨Nat.lt_of_le_of_lt h2 hN, Nat.lt_of_le_of_lt h1 hD.lt⟩
theorem ok_plus (T : Txt K mg ad fd) : FnOk P w K mg base CX0 3 (ad 3) (fd 3) ["one", "other"] sp_plus := by
  refine T.plus.fn.ok sc_plus (fun vs H Q E h => ?_) (fun cdv A outer s H vs Q E hr h => ?_)
  · obtain ⟨p, q, D, N, N', rfl, _⟩ := h
    rfl
  obtain ⟨p, q, D, N, N', rfl, hD, hN, hN', ⟨t, b, hp, f⟩, ⟨t', b', hq, f'⟩, k⟩ := h
  have qpss_one := @pss_one
  have qps_ret := @ps_ret
  have qpe_call := @pe_call
  have qpa2 := @pa2
  have qpe_op := @pe_op
  have qpe_ix := @pe_ix
  have qpv := @pv
  have qpe_int := @pe_int
  generalize @L2.PE = QE, @L2.PT = QT, @L2.PW = QW, @L2.PA = QA, @L2.PS = QS, @L2.PSs = QSs, @L2.PG = QG, @L2.PGs = QGs, @L2.PI = QI, @L2.PO = QO, @L2.PIf = QIf at qpss_one qps_ret qpe_call qpa2 qpe_op qpe_ix qpv qpe_int ⊢
  refine ⟨_,
    (qpss_one (qps_ret (qpe_call (ok_fraction T) (hr.mono (by decide)) rfl T.fraction.mg T.fraction.fn.kp T.fraction.bn .nil pass0 (qpa2 (qpe_op op_add (qpe_op op_mulB (qpe_ix ix_tupH (qpv 0) qpe_int (fun _ _ => rfl)) (qpe_ix ix_tupH (qpv 1) qpe_int (fun _ _ => rfl))) (qpe_op op_mulB (qpe_ix ix_tupH (qpv 1) qpe_int (fun _ _ => rfl)) (qpe_ix ix_tupH (qpv 0) qpe_int (fun _ _ => rfl)))) ns_BinOp (qpe_op op_mulB (qpe_ix ix_tupH (qpv 0) qpe_int (fun _ _ => rfl)) (qpe_ix ix_tupH (qpv 1) qpe_int (fun _ _ => rfl))) ns_BinOp))))
    , ?_⟩
  clear  qpss_one qps_ret qpe_call qpa2 qpe_op qpe_ix qpv qpe_int QE QT QW QA QS QSs QG QGs QI QO QIf
  obtain ⟨lt, lb⟩ := frd_sz hD hN f
  obtain ⟨lt', lb'⟩ := frd_sz hD hN' f'
  have pb := Int.mul_pos f.pos f'.pos
  simp only [sp_frI, tSeq, tNext, tRet, tRetN, tIfS, tAsg, gName, tDrop, tVar, tC, tOp, tUn, rI, rI0, rU, rEq, rNe, tTest, tB, tNot, tAnd, tOr, tAndV, tOrV, tNotV, tIf, tCB, tCall, tNil, tCons, tTup, tLst, gTup, gCons, gNil, L2.start, rIsi, rIxT, rIxL, cx_K, tyN_non, tyN_bl, tyN_int, tyN_str, isi_ii, isi_ib, isi_it, isi_il, isi_bi, isi_bb, isi_tt, isi_ni, isi_si, isi_ti, isi_li, isi_di, isi_ll, scal_ii, scal_bb, sz0, sz1, sz2, sz3, sz4, List.map_cons, List.map_nil, List.length_cons, List.length_nil, List.replicate, List.cons_append, List.nil_append, List.append_nil, List.getElem?_cons_zero, List.getElem?_cons_succ, List.set_cons_zero, List.set_cons_succ, Option.some.injEq, V.int.injEq, V.bl.injEq, V.ref.injEq, V.ty.injEq, List.cons.injEq, and_true, true_and, exists_eq_left, exists_eq_left', exists_and_left, exists_and_right, exists_eq, exists_eq', and_assoc, Nat.reduceAdd, Nat.reduceSub, Bool.not_true, Bool.not_false, Bool.false_eq_true, if_true, if_false, reduceIte, Nat.zero_add, decide_true, decide_false, selC, comp_K, tYes, Option.join_some, rIxTH, rIxLH, rLenH, rIsiF, at0, at1, at2, at3, at4, at5, at6, at7, at8, HO.tup.injEq, HO.lst.injEq, reduceCtorEq, false_or, or_false, tyF_non, tyF_bl, tyF_int, tyF_str, exists_const, Int.reduceAdd, Int.reduceMul, Int.reduceSub, gSub, rSetL, tSl, tPart, tNoPart, rSlH, upd_same, upd_upd, rIntB, rListH, tBM, tBM0, rAppend, rClear, tPar, gTupH, hp, hq]
  exact ⟨cbig lt lb', cbig lt' lb, cbig lb lb', by omega, lt_mono (mul_lt lb lb') (by decide), fun r H' g hr => k r H' g ⟨_, _, hr, f.plus f'⟩⟩
theorem ok_half (T : Txt K mg ad fd) : FnOk P w K mg base CX0 3 (ad 4) (fd 4) ["one"] sp_half := by
  refine T.half.fn.ok sc_half (fun vs H Q E h => ?_) (fun cdv A outer s H vs Q E hr h => ?_)
  · obtain ⟨p, D, N, rfl, _⟩ := h
    rfl
  obtain ⟨p, D, N, rfl, hD, hN, ⟨t, b, hp, f⟩, k⟩ := h
  have qpss_one := @pss_one
  have qps_ret := @ps_ret
  have qpe_call := @pe_call
  have qpa2 := @pa2
  have qpe_ix := @pe_ix
  have qpv := @pv
  have qpe_int := @pe_int
  have qpe_op := @pe_op
  generalize @L2.PE = QE, @L2.PT = QT, @L2.PW = QW, @L2.PA = QA, @L2.PS = QS, @L2.PSs = QSs, @L2.PG = QG, @L2.PGs = QGs, @L2.PI = QI, @L2.PO = QO, @L2.PIf = QIf at qpss_one qps_ret qpe_call qpa2 qpe_ix qpv qpe_int qpe_op ⊢
  refine ⟨_,
    (qpss_one (qps_ret (qpe_call (ok_fraction T) (hr.mono (by decide)) rfl T.fraction.mg T.fraction.fn.kp T.fraction.bn .nil pass0 (qpa2 (qpe_ix ix_tupH (qpv 0) qpe_int (fun _ _ => rfl)) ns_Subscript (qpe_op op_mul (qpe_ix ix_tupH (qpv 0) qpe_int (fun _ _ => rfl)) qpe_int) ns_BinOp))))
    , ?_⟩
  clear  qpss_one qps_ret qpe_call qpa2 qpe_ix qpv qpe_int qpe_op QE QT QW QA QS QSs QG QGs QI QO QIf
  obtain ⟨lt, lb⟩ := frd_sz hD hN f
  have pb := f.pos
  simp only [sp_frI, tSeq, tNext, tRet, tRetN, tIfS, tAsg, gName, tDrop, tVar, tC, tOp, tUn, rI, rI0, rU, rEq, rNe, tTest, tB, tNot, tAnd, tOr, tAndV, tOrV, tNotV, tIf, tCB, tCall, tNil, tCons, tTup, tLst, gTup, gCons, gNil, L2.start, rIsi, rIxT, rIxL, cx_K, tyN_non, tyN_bl, tyN_int, tyN_str, isi_ii, isi_ib, isi_it, isi_il, isi_bi, isi_bb, isi_tt, isi_ni, isi_si, isi_ti, isi_li, isi_di, isi_ll, scal_ii, scal_bb, sz0, sz1, sz2, sz3, sz4, List.map_cons, List.map_nil, List.length_cons, List.length_nil, List.replicate, List.cons_append, List.nil_append, List.append_nil, List.getElem?_cons_zero, List.getElem?_cons_succ, List.set_cons_zero, List.set_cons_succ, Option.some.injEq, V.int.injEq, V.bl.injEq, V.ref.injEq, V.ty.injEq, List.cons.injEq, and_true, true_and, exists_eq_left, exists_eq_left', exists_and_left, exists_and_right, exists_eq, exists_eq', and_assoc, Nat.reduceAdd, Nat.reduceSub, Bool.not_true, Bool.not_false, Bool.false_eq_true, if_true, if_false, reduceIte, Nat.zero_add, decide_true, decide_false, selC, comp_K, tYes, Option.join_some, rIxTH, rIxLH, rLenH, rIsiF, at0, at1, at2, at3, at4, at5, at6, at7, at8, HO.tup.injEq, HO.lst.injEq, reduceCtorEq, false_or, or_false, tyF_non, tyF_bl, tyF_int, tyF_str, exists_const, Int.reduceAdd, Int.reduceMul, Int.reduceSub, gSub, rSetL, tSl, tPart, tNoPart, rSlH, upd_same, upd_upd, rIntB, rListH, tBM, tBM0, rAppend, rClear, tPar, gTupH, hp]
  exact ⟨.inr ⟨by decide, by decide⟩, by omega, lt_mono (mul_lt lb (show (2 : Int).natAbs < 2 ^ 2 by decide)) (by decide), fun r H' g hr => k r H' g ⟨_, _, hr, f.half⟩⟩
theorem cut_from (xs : List V) (n : Nat) (h : n ≤ xs.length) : cutV xs (some (n : Int)) none = xs.drop n := by
  unfold cutV
  rw [HT.sIx_nat, HT.sIx_none, Nat.min_eq_left h, List.take_of_length_le (by rw [List.length_drop]; omega)]
theorem while_at {c : TT} {tb : TS} {D : Ends} {σ : St} {H : Hp} (Pv : St → Hp → Prop) (μ : St → Hp → Nat) (h0 : Pv σ H)
    (hs : ∀ σ H, Pv σ H → c σ H fun b H1 => if b = true then ∃ N : St → Hp → Prop, (∀ σ' H', N σ' H' → ∃ m', m' < μ σ H ∧ m' = μ σ' H' ∧ Pv σ' H') ∧ tb { D with nx := N, ct := N, bk := D.nx } σ H1 else D.nx σ H1) : tWhile c tb D σ H := by
  refine ⟨fun m σ H => m = μ σ H ∧ Pv σ H, ⟨_, rfl, h0⟩, ?_⟩
  rintro m σ H ⟨rfl, p⟩
  exact hs σ H p
def lenIx (i : Nat) (σ : St) (H : Hp) : Nat := match σ[i]? with
  | some (some (.ref p)) => (match H p with | some (.lst xs) => xs.length | _ => 0)
  | _ => 0
abbrev lenAt := lenIx 1
theorem lenAt_of {l S : Addr} {o : Option V} {H : Hp} {zs : List V} (h : H S = some (.lst zs)) : lenAt [some (.ref l), some (.ref S), o] H = zs.length := by
  unfold lenAt lenIx
  simp [h]
def iv_total (H : Hp) (l : Addr) (D : Int) (ns : List Int) : St → Hp → Prop := fun σ H' => Same H H' ∧ ∃ (S : Addr) (zs : List V) (ms : List Int) (o : Option V), σ = [some (.ref l), some (.ref S), o] ∧ H' S = some (.lst zs) ∧ zs.length ≤ 1000 ∧ LR (FrH D) H' zs ms ∧ sumN ms = sumN ns ∧ sumA ms ≤ sumA ns
theorem prs_at {ms : List Int} {i : Nat} (hi : i < ms.length / 2) : (prs ms)[i]? = some (ms.getD (2 * i) 0 + ms.getD (2 * i + 1) 0) := by
  unfold prs
  rw [List.getElem?_map, List.getElem?_range hi]
  rfl
theorem ok_total (T : Txt K mg ad fd) : FnOk P w K mg base CX0 4 (ad 5) (fd 5) ["some"] sp_total := by
  refine T.total.fn.ok sc_total (fun vs H Q E h => ?_) (fun cdv A outer s H vs Q E hr h => ?_)
  · obtain ⟨l, ys, D, ns, rfl, _⟩ := h
    rfl
  obtain ⟨l, ys, D, ns, rfl, hl, hz, hD, hs, hA, k⟩ := h
  have qpss3 := @pss3
  have qps_set := @ps_set
  have qpe_callTy := @pe_callTy
  have qpa1 := @pa1
  have qpv := @pv
  have qps_while := @ps_while
  have qpt_cmpR := @pt_cmpR
  have qpe_callB := @pe_callB
  have qpe_int := @pe_int
  have qpss2 := @pss2
  have qps_setC := @ps_setC
  unfold L2.CompBody at qps_setC
  have qpi_range3 := @pi_range3
  have qpa3 := @pa3
  have qpe_op := @pe_op
  have qpg_name := @pg_name
  have qpif_nil := @pif_nil
  have qpe_call := @pe_call
  have qpa2 := @pa2
  have qpe_ix := @pe_ix
  have qpe_slice := @pe_slice
  have qpo_some := @po_some
  have qpo_none := @po_none
  have qps_ret := @ps_ret
  have qpe_ifExp := @pe_ifExp
  have qpe_tup := @pe_tup
  generalize @L2.PE = QE, @L2.PT = QT, @L2.PW = QW, @L2.PA = QA, @L2.PS = QS, @L2.PSs = QSs, @L2.PG = QG, @L2.PGs = QGs, @L2.PI = QI, @L2.PO = QO, @L2.PIf = QIf at qpss3 qps_set qpe_callTy qpa1 qpv qps_while qpt_cmpR qpe_callB qpe_int qpss2 qps_setC qpi_range3 qpa3 qpe_op qpg_name qpif_nil qpe_call qpa2 qpe_ix qpe_slice qpo_some qpo_none qps_ret qpe_ifExp qpe_tup ⊢
  refine ⟨_,
    (qpss3
      (qps_set (i := 1) sc_total.nd rfl (Or.inr rfl) (qpe_callTy call_listH rfl T.b_list bt_list (qpa1 (qpv 0) ns_Name)))
      (qps_while PassesOwn.never (qpt_cmpR op_gt (qpe_callB call_lenH rfl T.b_len bt_len (qpa1 (qpv 1) ns_Name)) qpe_int (nomark _)) (qpss2
      (qps_setC (i := 2) sc_total.nd rfl (Or.inl rfl) (dsc := defScope s_total) (N := ["some", "sums", "pairs"]) (own := ["k"]) (ix := [1]) rfl rfl rfl ⟨rfl, by decide +kernel, by decide +kernel, by decide +kernel, by decide +kernel⟩ (qpi_range3 rfl T.b_range (qpa3 qpe_int ns_Constant (qpe_op op_sub (qpe_callB call_lenH rfl T.b_len bt_len (qpa1 (qpv 1) ns_Name)) qpe_int) ns_BinOp qpe_int ns_Constant)) (fun cl C fp s2 H2 xe => ⟨(qpg_name (i := 0) (show List.Nodup (["k", "sums"] : List Str) from by decide +kernel) rfl (Or.inl rfl)), qpif_nil, (qpe_call (ok_plus T) (hr.mono (by decide)) rfl T.plus.mg T.plus.fn.kp T.plus.bn .nil pass0 (qpa2 (qpe_ix ix_listH (qpv 1) (qpv 0) (fun _ _ => rfl)) ns_Subscript (qpe_ix ix_listH (qpv 1) (qpe_op op_add (qpv 0) qpe_int) (fun _ _ => rfl)) ns_Subscript))⟩))
      (qps_set (i := 1) sc_total.nd rfl (Or.inr rfl) (qpe_op op_cat (qpv 2) (qpe_slice sl_listH (qpv 1) (qpo_some (qpe_op op_mul qpe_int (qpe_callB call_lenH rfl T.b_len bt_len (qpa1 (qpv 2) ns_Name)))) qpo_none)))))
      (qps_ret (qpe_ifExp (qpt_cmpR op_eq (qpe_callB call_lenH rfl T.b_len bt_len (qpa1 (qpv 1) ns_Name)) qpe_int (nomark _)) (qpe_ix ix_listH (qpv 1) qpe_int (fun _ _ => rfl)) (qpe_tup (qpa2 qpe_int ns_Constant qpe_int ns_Constant)))))
    , ?_⟩
  clear  qpss3 qps_set qpe_callTy qpa1 qpv qps_while qpt_cmpR qpe_callB qpe_int qpss2 qps_setC qpi_range3 qpa3 qpe_op qpg_name qpif_nil qpe_call qpa2 qpe_ix qpe_slice qpo_some qpo_none qps_ret qpe_ifExp qpe_tup QE QT QW QA QS QSs QG QGs QI QO QIf
  simp only [tSeq, tNext, tRet, tRetN, tIfS, tAsg, gName, tDrop, tVar, tC, tOp, tUn, rI, rI0, rU, rEq, rNe, tTest, tB, tNot, tAnd, tOr, tAndV, tOrV, tNotV, tIf, tCB, tCall, tNil, tCons, tTup, tLst, gTup, gCons, gNil, L2.start, rIsi, rIxT, rIxL, cx_K, tyN_non, tyN_bl, tyN_int, tyN_str, isi_ii, isi_ib, isi_it, isi_il, isi_bi, isi_bb, isi_tt, isi_ni, isi_si, isi_ti, isi_li, isi_di, isi_ll, scal_ii, scal_bb, sz0, sz1, sz2, sz3, sz4, List.map_cons, List.map_nil, List.length_cons, List.length_nil, List.replicate, List.cons_append, List.nil_append, List.append_nil, List.getElem?_cons_zero, List.getElem?_cons_succ, List.set_cons_zero, List.set_cons_succ, Option.some.injEq, V.int.injEq, V.bl.injEq, V.ref.injEq, V.ty.injEq, List.cons.injEq, and_true, true_and, exists_eq_left, exists_eq_left', exists_and_left, exists_and_right, exists_eq, exists_eq', and_assoc, Nat.reduceAdd, Nat.reduceSub, Bool.not_true, Bool.not_false, Bool.false_eq_true, if_true, if_false, reduceIte, Nat.zero_add, decide_true, decide_false, selC, comp_K, tYes, Option.join_some, rIxTH, rIxLH, rLenH, rIsiF, at0, at1, at2, at3, at4, at5, at6, at7, at8, HO.tup.injEq, HO.lst.injEq, reduceCtorEq, false_or, or_false, tyF_non, tyF_bl, tyF_int, tyF_str, exists_const, Int.reduceAdd, Int.reduceMul, Int.reduceSub, gSub, rSetL, tSl, tPart, tNoPart, rSlH, upd_same, upd_upd, rIntB, rListH, tBM, tBM0, rAppend, rClear, tPar, gTupH, hl]
  intro S hS
  have gS := same_new hS (HO.lst ys)
  refine while_at (iv_total H l D ns) lenAt ⟨gS, S, ys, ns, none, rfl, upd_same, hz, hs.ts frh_ts (ts_same gS), rfl, Int.le_refl _⟩ ?_
  · rintro σ H2 ⟨g2, S, zs, ms, o, rfl, hS2, hz2, hs2, en, ea⟩
    simp only [tSeq, tNext, tRet, tRetN, tIfS, tAsg, gName, tDrop, tVar, tC, tOp, tUn, rI, rI0, rU, rEq, rNe, tTest, tB, tNot, tAnd, tOr, tAndV, tOrV, tNotV, tIf, tCB, tCall, tNil, tCons, tTup, tLst, gTup, gCons, gNil, L2.start, rIsi, rIxT, rIxL, cx_K, tyN_non, tyN_bl, tyN_int, tyN_str, isi_ii, isi_ib, isi_it, isi_il, isi_bi, isi_bb, isi_tt, isi_ni, isi_si, isi_ti, isi_li, isi_di, isi_ll, scal_ii, scal_bb, sz0, sz1, sz2, sz3, sz4, List.map_cons, List.map_nil, List.length_cons, List.length_nil, List.replicate, List.cons_append, List.nil_append, List.append_nil, List.getElem?_cons_zero, List.getElem?_cons_succ, List.set_cons_zero, List.set_cons_succ, Option.some.injEq, V.int.injEq, V.bl.injEq, V.ref.injEq, V.ty.injEq, List.cons.injEq, and_true, true_and, exists_eq_left, exists_eq_left', exists_and_left, exists_and_right, exists_eq, exists_eq', and_assoc, Nat.reduceAdd, Nat.reduceSub, Bool.not_true, Bool.not_false, Bool.false_eq_true, if_true, if_false, reduceIte, Nat.zero_add, decide_true, decide_false, selC, comp_K, tYes, Option.join_some, rIxTH, rIxLH, rLenH, rIsiF, at0, at1, at2, at3, at4, at5, at6, at7, at8, HO.tup.injEq, HO.lst.injEq, reduceCtorEq, false_or, or_false, tyF_non, tyF_bl, tyF_int, tyF_str, exists_const, Int.reduceAdd, Int.reduceMul, Int.reduceSub, gSub, rSetL, tSl, tPart, tNoPart, rSlH, upd_same, upd_upd, rIntB, rListH, tBM, tBM0, rAppend, rClear, tPar, gTupH, hS2]
    refine ite2 (fun c => ?_) (fun c => ?_)
    · have c1 := of_decide_eq_true c
      refine ⟨fun σ' H' => iv_total H l D ns σ' H' ∧ lenAt σ' H' < lenAt [some (V.ref l), some (V.ref S), o] H2, fun σ' H' ⟨p, l⟩ => ⟨_, l, rfl, p⟩, ?_⟩
      refine tComp_mk ?_
      simp only [iRng3, tSeq, tNext, tRet, tRetN, tIfS, tAsg, gName, tDrop, tVar, tC, tOp, tUn, rI, rI0, rU, rEq, rNe, tTest, tB, tNot, tAnd, tOr, tAndV, tOrV, tNotV, tIf, tCB, tCall, tNil, tCons, tTup, tLst, gTup, gCons, gNil, L2.start, rIsi, rIxT, rIxL, cx_K, tyN_non, tyN_bl, tyN_int, tyN_str, isi_ii, isi_ib, isi_it, isi_il, isi_bi, isi_bb, isi_tt, isi_ni, isi_si, isi_ti, isi_li, isi_di, isi_ll, scal_ii, scal_bb, sz0, sz1, sz2, sz3, sz4, List.map_cons, List.map_nil, List.length_cons, List.length_nil, List.replicate, List.cons_append, List.nil_append, List.append_nil, List.getElem?_cons_zero, List.getElem?_cons_succ, List.set_cons_zero, List.set_cons_succ, Option.some.injEq, V.int.injEq, V.bl.injEq, V.ref.injEq, V.ty.injEq, List.cons.injEq, and_true, true_and, exists_eq_left, exists_eq_left', exists_and_left, exists_and_right, exists_eq, exists_eq', and_assoc, Nat.reduceAdd, Nat.reduceSub, Bool.not_true, Bool.not_false, Bool.false_eq_true, if_true, if_false, reduceIte, Nat.zero_add, decide_true, decide_false, selC, comp_K, tYes, Option.join_some, rIxTH, rIxLH, rLenH, rIsiF, at0, at1, at2, at3, at4, at5, at6, at7, at8, HO.tup.injEq, HO.lst.injEq, reduceCtorEq, false_or, or_false, tyF_non, tyF_bl, tyF_int, tyF_str, exists_const, Int.reduceAdd, Int.reduceMul, Int.reduceSub, gSub, rSetL, tSl, tPart, tNoPart, rSlH, upd_same, upd_upd, rIntB, rListH, tBM, tBM0, rAppend, rClear, tPar, gTupH, hS2]
      refine ⟨by decide, by decide, by omega, by omega, fun D' hD' => ?_⟩
      have nn : ((((zs.length : Int) - 1) - 0 + 1) / 2).toNat = ms.length / 2 := by rw [← hs2.1]; omega
      rw [nn]
      refine comp_step (iv_lr (FrH D) (prs ms) H2 D') (iv_lr_nil hD') ?_ ?_
      · rintro i ws H3 hi iv
        have hl := hs2.1
        obtain ⟨p, n, ep, an, fp⟩ := (hs2.ts frh_ts (ts_same iv.1)).at (j := 2 * i) (by omega)
        obtain ⟨q, n', eq, an', fq⟩ := (hs2.ts frh_ts (ts_same iv.1)).at (j := 2 * i + 1) (by omega)
        have hS3 := iv.1 _ _ hS2
        have i1 : atI zs (0 + (i : Int) * 2) = some (.ref p) := by
          have := atI_nat ep
          rw [show ((2 * i : Nat) : Int) = 0 + (i : Int) * 2 by omega] at this
          exact this
        have i2 : atI zs (0 + (i : Int) * 2 + 1) = some (.ref q) := by
          have := atI_nat eq
          rw [show ((2 * i + 1 : Nat) : Int) = 0 + (i : Int) * 2 + 1 by omega] at this
          exact this
        have b1 := sumA_mem ms _ _ an
        have b2 := sumA_mem ms _ _ an'
        have big : ∀ m : Int, (m.natAbs : Int) ≤ sumA ms → m.natAbs < 2 ^ 300 := fun m hm => by
          have : (m.natAbs : Int) < 2 ^ 300 := by omega
          exact_mod_cast this
        simp only [tSeq, tNext, tRet, tRetN, tIfS, tAsg, gName, tDrop, tVar, tC, tOp, tUn, rI, rI0, rU, rEq, rNe, tTest, tB, tNot, tAnd, tOr, tAndV, tOrV, tNotV, tIf, tCB, tCall, tNil, tCons, tTup, tLst, gTup, gCons, gNil, L2.start, rIsi, rIxT, rIxL, cx_K, tyN_non, tyN_bl, tyN_int, tyN_str, isi_ii, isi_ib, isi_it, isi_il, isi_bi, isi_bb, isi_tt, isi_ni, isi_si, isi_ti, isi_li, isi_di, isi_ll, scal_ii, scal_bb, sz0, sz1, sz2, sz3, sz4, List.map_cons, List.map_nil, List.length_cons, List.length_nil, List.replicate, List.cons_append, List.nil_append, List.append_nil, List.getElem?_cons_zero, List.getElem?_cons_succ, List.set_cons_zero, List.set_cons_succ, Option.some.injEq, V.int.injEq, V.bl.injEq, V.ref.injEq, V.ty.injEq, List.cons.injEq, and_true, true_and, exists_eq_left, exists_eq_left', exists_and_left, exists_and_right, exists_eq, exists_eq', and_assoc, Nat.reduceAdd, Nat.reduceSub, Bool.not_true, Bool.not_false, Bool.false_eq_true, if_true, if_false, reduceIte, Nat.zero_add, decide_true, decide_false, selC, comp_K, tYes, Option.join_some, rIxTH, rIxLH, rLenH, rIsiF, at0, at1, at2, at3, at4, at5, at6, at7, at8, HO.tup.injEq, HO.lst.injEq, reduceCtorEq, false_or, or_false, tyF_non, tyF_bl, tyF_int, tyF_str, exists_const, Int.reduceAdd, Int.reduceMul, Int.reduceSub, gSub, rSetL, tSl, tPart, tNoPart, rSlH, upd_same, upd_upd, rIntB, rListH, tBM, tBM0, rAppend, rClear, tPar, gTupH, hS3, i1, i2]
        refine ⟨p, q, D, n, n', rfl, hD, big _ b1, big _ b2, fp, fq, fun r H4 g4 hr => ?_⟩
        refine iv_lr_put frh_ts hD' (by omega) iv hi (prs_at hi) g4 ?_
        rw [List.getD_eq_getElem?_getD, List.getD_eq_getElem?_getD, an, an']
        exact hr
      · rintro ws H3 ⟨g3, hD3, hn3, hw3⟩
        have hS3 := g3 _ _ hS2
        have hl := hs2.1
        have e2 : (2 : Int) * (ws.length : Int) = ((2 * (ms.length / 2) : Nat) : Int) := by rw [hn3]; omega
        simp only [tSeq, tNext, tRet, tRetN, tIfS, tAsg, gName, tDrop, tVar, tC, tOp, tUn, rI, rI0, rU, rEq, rNe, tTest, tB, tNot, tAnd, tOr, tAndV, tOrV, tNotV, tIf, tCB, tCall, tNil, tCons, tTup, tLst, gTup, gCons, gNil, L2.start, rIsi, rIxT, rIxL, cx_K, tyN_non, tyN_bl, tyN_int, tyN_str, isi_ii, isi_ib, isi_it, isi_il, isi_bi, isi_bb, isi_tt, isi_ni, isi_si, isi_ti, isi_li, isi_di, isi_ll, scal_ii, scal_bb, sz0, sz1, sz2, sz3, sz4, List.map_cons, List.map_nil, List.length_cons, List.length_nil, List.replicate, List.cons_append, List.nil_append, List.append_nil, List.getElem?_cons_zero, List.getElem?_cons_succ, List.set_cons_zero, List.set_cons_succ, Option.some.injEq, V.int.injEq, V.bl.injEq, V.ref.injEq, V.ty.injEq, List.cons.injEq, and_true, true_and, exists_eq_left, exists_eq_left', exists_and_left, exists_and_right, exists_eq, exists_eq', and_assoc, Nat.reduceAdd, Nat.reduceSub, Bool.not_true, Bool.not_false, Bool.false_eq_true, if_true, if_false, reduceIte, Nat.zero_add, decide_true, decide_false, selC, comp_K, tYes, Option.join_some, rIxTH, rIxLH, rLenH, rIsiF, at0, at1, at2, at3, at4, at5, at6, at7, at8, HO.tup.injEq, HO.lst.injEq, reduceCtorEq, false_or, or_false, tyF_non, tyF_bl, tyF_int, tyF_str, exists_const, Int.reduceAdd, Int.reduceMul, Int.reduceSub, gSub, rSetL, tSl, tPart, tNoPart, rSlH, upd_same, upd_upd, rIntB, rListH, tBM, tBM0, rAppend, rClear, tPar, gTupH, hD3, hS3]
        refine ⟨.inl ⟨by decide, by decide⟩, fun p hp => ?_⟩
        rw [e2, cut_from _ _ (by omega)]
        have g4 := same_new hp (HO.lst (zs.drop (2 * (ms.length / 2))))
        have h4 : upd H3 p (HO.lst (zs.drop (2 * (ms.length / 2)))) p = some (HO.lst (zs.drop (2 * (ms.length / 2)))) := upd_same
        have hD4 := g4 _ _ hD3
        generalize upd H3 p (HO.lst (zs.drop (2 * (ms.length / 2)))) = H4 at *
        refine ⟨D', p, ws, _, rfl, rfl, hD4, h4, Nat.le_trans (show _ ≤ 1000 by rw [List.length_drop]; omega) (by decide), fun S' hS' => ?_⟩
        have g5 := same_new hS' (HO.lst (ws ++ zs.drop (2 * (ms.length / 2))))
        have gA := g3.trans (g4.trans g5)
        rw [List.take_of_length_le (by unfold prs; rw [List.length_map, List.length_range]; exact Nat.le_refl _)] at hw3
        have ln : (ws ++ zs.drop (2 * (ms.length / 2))).length = ms.length / 2 + (zs.length - 2 * (ms.length / 2)) := by rw [List.length_append, hn3, List.length_drop]
        have sn := nxS_sum ms.length ms (Nat.le_refl _)
        refine ⟨⟨g2.trans gA, S', _, nxS ms, _, rfl, upd_same, by rw [ln]; omega, ?_, sn.1.trans en, Int.le_trans sn.2 ea⟩, ?_⟩
        · exact (hw3.ts frh_ts (ts_same (g4.trans g5))).app ((hs2.ts frh_ts (ts_same gA)).drop _)
        · rw [lenAt_of upd_same, lenAt_of hS2, ln]
          omega
    · have c1 : ¬ (1 : Int) < zs.length := fun z => c (decide_eq_true z)
      have hl := hs2.1
      refine ite2 (fun c2 => ?_) (fun c2 => ?_)
      · have c2 := of_decide_eq_true c2
        obtain ⟨p, m, ep, em, fp⟩ := hs2.at (j := 0) (by omega)
        refine ⟨_, atI_nat ep, k p H2 g2 ?_⟩
        have e1 : ms = [m] := by
          match ms, em, hl with
          | [a], em, _ => cases em; rfl
          | [], em, _ => cases em
          | a :: b :: r, _, hl => simp only [List.length_cons] at hl; omega
        rw [← en, e1]
        unfold sumN sumI sumI
        rw [Int.add_zero]
        exact fp
      · have c2 : ¬ (zs.length : Int) = 1 := fun z => c2 (decide_eq_true z)
        intro p hp
        have e0 : ms = [] := List.eq_nil_of_length_eq_zero (by omega)
        refine k p _ (g2.trans (same_new hp _)) ⟨0, 1, upd_same, ?_⟩
        rw [← en, e0]
        exact ⟨by decide, by decide, by simp [sumN, sumI]⟩
theorem ok_law_held (T : Txt K mg ad fd) : FnOk P w K mg base CX0 1 (ad 20) (fd 20) ["_law_cell"] sp_held := by
  refine T.law_held.fn.ok sc_law_held (fun vs H Q E h => ?_) (fun cdv A outer s H vs Q E hr h => ?_)
  · obtain ⟨c, rfl, _⟩ := h
    rfl
  obtain ⟨c, rfl, k⟩ := h
  have qpss3 := @pss3
  have qps_set := @ps_set
  have qpe_lst := @pe_lst
  have qpa_nil := @pa_nil
  have qps_for := @ps_for
  have qpi_range1 := @pi_range1
  have qpa1 := @pa1
  have qpe_int := @pe_int
  have qpg_name := @pg_name
  have qpss2 := @pss2
  have qps_expr := @ps_expr
  have qpe_bm := @pe_bm
  have qpv := @pv
  have qpe_cmpR := @pe_cmpR
  have qpe_op := @pe_op
  have qps_ret := @ps_ret
  generalize @L2.PE = QE, @L2.PT = QT, @L2.PW = QW, @L2.PA = QA, @L2.PS = QS, @L2.PSs = QSs, @L2.PG = QG, @L2.PGs = QGs, @L2.PI = QI, @L2.PO = QO, @L2.PIf = QIf at qpss3 qps_set qpe_lst qpa_nil qps_for qpi_range1 qpa1 qpe_int qpg_name qpss2 qps_expr qpe_bm qpv qpe_cmpR qpe_op qps_ret ⊢
  refine ⟨_,
    (qpss3
      (qps_set (i := 1) sc_law_held.nd rfl (Or.inl rfl) (qpe_lst qpa_nil))
      (qps_for PassesOwn.never rfl (qpi_range1 rfl T.b_range (qpa1 qpe_int ns_Constant)) (qpg_name (i := 2) sc_law_held.nd rfl (Or.inl rfl)) (qpss2
      (qps_expr (qpe_bm PySem.F.plainAttrs_list PySem.F.slot_list_append PySem.F.type_list_append mt_append (qpv 1) (qpa1 (qpe_cmpR op_eq (qpe_op op_mod (qpv 0) qpe_int) qpe_int (nomark _)) ns_Compare)))
      (qps_set (i := 0) sc_law_held.nd rfl (Or.inl rfl) (qpe_op op_fdiv (qpv 0) qpe_int))))
      (qps_ret (qpv 1)))
    , ?_⟩
  clear  qpss3 qps_set qpe_lst qpa_nil qps_for qpi_range1 qpa1 qpe_int qpg_name qpss2 qps_expr qpe_bm qpv qpe_cmpR qpe_op qps_ret QE QT QW QA QS QSs QG QGs QI QO QIf
  simp only [tSeq, tNext, tRet, tRetN, tIfS, tAsg, gName, tDrop, tVar, tC, tOp, tUn, rI, rI0, rU, rEq, rNe, tTest, tB, tNot, tAnd, tOr, tAndV, tOrV, tNotV, tIf, tCB, tCall, tNil, tCons, tTup, tLst, gTup, gCons, gNil, L2.start, rIsi, rIxT, rIxL, cx_K, tyN_non, tyN_bl, tyN_int, tyN_str, isi_ii, isi_ib, isi_it, isi_il, isi_bi, isi_bb, isi_tt, isi_ni, isi_si, isi_ti, isi_li, isi_di, isi_ll, scal_ii, scal_bb, sz0, sz1, sz2, sz3, sz4, List.map_cons, List.map_nil, List.length_cons, List.length_nil, List.replicate, List.cons_append, List.nil_append, List.append_nil, List.getElem?_cons_zero, List.getElem?_cons_succ, List.set_cons_zero, List.set_cons_succ, Option.some.injEq, V.int.injEq, V.bl.injEq, V.ref.injEq, V.ty.injEq, List.cons.injEq, and_true, true_and, exists_eq_left, exists_eq_left', exists_and_left, exists_and_right, exists_eq, exists_eq', and_assoc, Nat.reduceAdd, Nat.reduceSub, Bool.not_true, Bool.not_false, Bool.false_eq_true, if_true, if_false, reduceIte, Nat.zero_add, decide_true, decide_false, selC, comp_K, tYes, Option.join_some, rIxTH, rIxLH, rLenH, rIsiF, at0, at1, at2, at3, at4, at5, at6, at7, at8, HO.tup.injEq, HO.lst.injEq, reduceCtorEq, false_or, or_false, tyF_non, tyF_bl, tyF_int, tyF_str, exists_const, Int.reduceAdd, Int.reduceMul, Int.reduceSub, gSub, rSetL, tSl, tPart, tNoPart, rSlH, upd_same, upd_upd, rIntB, rListH, tBM, tBM0, rAppend, rClear, tPar, gTupH]
  intro D hD
  have gD := same_new hD (HO.lst [])
  refine tFor_mk ?_
  simp only [iRng1, tSeq, tNext, tRet, tRetN, tIfS, tAsg, gName, tDrop, tVar, tC, tOp, tUn, rI, rI0, rU, rEq, rNe, tTest, tB, tNot, tAnd, tOr, tAndV, tOrV, tNotV, tIf, tCB, tCall, tNil, tCons, tTup, tLst, gTup, gCons, gNil, L2.start, rIsi, rIxT, rIxL, cx_K, tyN_non, tyN_bl, tyN_int, tyN_str, isi_ii, isi_ib, isi_it, isi_il, isi_bi, isi_bb, isi_tt, isi_ni, isi_si, isi_ti, isi_li, isi_di, isi_ll, scal_ii, scal_bb, sz0, sz1, sz2, sz3, sz4, List.map_cons, List.map_nil, List.length_cons, List.length_nil, List.replicate, List.cons_append, List.nil_append, List.append_nil, List.getElem?_cons_zero, List.getElem?_cons_succ, List.set_cons_zero, List.set_cons_succ, Option.some.injEq, V.int.injEq, V.bl.injEq, V.ref.injEq, V.ty.injEq, List.cons.injEq, and_true, true_and, exists_eq_left, exists_eq_left', exists_and_left, exists_and_right, exists_eq, exists_eq', and_assoc, Nat.reduceAdd, Nat.reduceSub, Bool.not_true, Bool.not_false, Bool.false_eq_true, if_true, if_false, reduceIte, Nat.zero_add, decide_true, decide_false, selC, comp_K, tYes, Option.join_some, rIxTH, rIxLH, rLenH, rIsiF, at0, at1, at2, at3, at4, at5, at6, at7, at8, HO.tup.injEq, HO.lst.injEq, reduceCtorEq, false_or, or_false, tyF_non, tyF_bl, tyF_int, tyF_str, exists_const, Int.reduceAdd, Int.reduceMul, Int.reduceSub, gSub, rSetL, tSl, tPart, tNoPart, rSlH, upd_same, upd_upd, rIntB, rListH, tBM, tBM0, rAppend, rClear, tPar, gTupH]
  refine ⟨by decide, by decide, for_range (fun i σ H' => Same H H' ∧ ∃ (bs : List Bool) (c : Int) (o : Option V), σ = [some (.int c), some (.ref D), o] ∧ H' D = some (.lst (bs.map V.bl)) ∧ bs.length = i) ⟨gD, [], c, none, rfl, upd_same, rfl⟩ ?_ ?_⟩
  · rintro i σ H2 hi ⟨g2, bs, c, o, rfl, hD2, hn⟩
    have hi : i < 16 := hi
    simp only [tSeq, tNext, tRet, tRetN, tIfS, tAsg, gName, tDrop, tVar, tC, tOp, tUn, rI, rI0, rU, rEq, rNe, tTest, tB, tNot, tAnd, tOr, tAndV, tOrV, tNotV, tIf, tCB, tCall, tNil, tCons, tTup, tLst, gTup, gCons, gNil, L2.start, rIsi, rIxT, rIxL, cx_K, tyN_non, tyN_bl, tyN_int, tyN_str, isi_ii, isi_ib, isi_it, isi_il, isi_bi, isi_bb, isi_tt, isi_ni, isi_si, isi_ti, isi_li, isi_di, isi_ll, scal_ii, scal_bb, sz0, sz1, sz2, sz3, sz4, List.map_cons, List.map_nil, List.length_cons, List.length_nil, List.replicate, List.cons_append, List.nil_append, List.append_nil, List.getElem?_cons_zero, List.getElem?_cons_succ, List.set_cons_zero, List.set_cons_succ, Option.some.injEq, V.int.injEq, V.bl.injEq, V.ref.injEq, V.ty.injEq, List.cons.injEq, and_true, true_and, exists_eq_left, exists_eq_left', exists_and_left, exists_and_right, exists_eq, exists_eq', and_assoc, Nat.reduceAdd, Nat.reduceSub, Bool.not_true, Bool.not_false, Bool.false_eq_true, if_true, if_false, reduceIte, Nat.zero_add, decide_true, decide_false, selC, comp_K, tYes, Option.join_some, rIxTH, rIxLH, rLenH, rIsiF, at0, at1, at2, at3, at4, at5, at6, at7, at8, HO.tup.injEq, HO.lst.injEq, reduceCtorEq, false_or, or_false, tyF_non, tyF_bl, tyF_int, tyF_str, exists_const, Int.reduceAdd, Int.reduceMul, Int.reduceSub, gSub, rSetL, tSl, tPart, tNoPart, rSlH, upd_same, upd_upd, rIntB, rListH, tBM, tBM0, rAppend, rClear, tPar, gTupH, hD2, List.length_map]
    refine ⟨tyV_of hD2, by decide, Nat.lt_of_le_of_lt (show bs.length ≤ 16 by omega) (by decide), ⟨by decide, by decide⟩, same_put g2 hD, bs ++ [decide (c % 2 = 1)], by rw [List.map_append]; rfl, by rw [List.length_append, hn]; rfl⟩
  · rintro σ H2 ⟨g2, bs, c, o, rfl, hD2, hn⟩
    simp only [tSeq, tNext, tRet, tRetN, tIfS, tAsg, gName, tDrop, tVar, tC, tOp, tUn, rI, rI0, rU, rEq, rNe, tTest, tB, tNot, tAnd, tOr, tAndV, tOrV, tNotV, tIf, tCB, tCall, tNil, tCons, tTup, tLst, gTup, gCons, gNil, L2.start, rIsi, rIxT, rIxL, cx_K, tyN_non, tyN_bl, tyN_int, tyN_str, isi_ii, isi_ib, isi_it, isi_il, isi_bi, isi_bb, isi_tt, isi_ni, isi_si, isi_ti, isi_li, isi_di, isi_ll, scal_ii, scal_bb, sz0, sz1, sz2, sz3, sz4, List.map_cons, List.map_nil, List.length_cons, List.length_nil, List.replicate, List.cons_append, List.nil_append, List.append_nil, List.getElem?_cons_zero, List.getElem?_cons_succ, List.set_cons_zero, List.set_cons_succ, Option.some.injEq, V.int.injEq, V.bl.injEq, V.ref.injEq, V.ty.injEq, List.cons.injEq, and_true, true_and, exists_eq_left, exists_eq_left', exists_and_left, exists_and_right, exists_eq, exists_eq', and_assoc, Nat.reduceAdd, Nat.reduceSub, Bool.not_true, Bool.not_false, Bool.false_eq_true, if_true, if_false, reduceIte, Nat.zero_add, decide_true, decide_false, selC, comp_K, tYes, Option.join_some, rIxTH, rIxLH, rLenH, rIsiF, at0, at1, at2, at3, at4, at5, at6, at7, at8, HO.tup.injEq, HO.lst.injEq, reduceCtorEq, false_or, or_false, tyF_non, tyF_bl, tyF_int, tyF_str, exists_const, Int.reduceAdd, Int.reduceMul, Int.reduceSub, gSub, rSetL, tSl, tPart, tNoPart, rSlH, upd_same, upd_upd, rIntB, rListH, tBM, tBM0, rAppend, rClear, tPar, gTupH]
    exact k D bs H2 g2 ⟨hD2, hn⟩
theorem ok_law_in (T : Txt K mg ad fd) : FnOk P w K mg base CX0 1 (ad 21) (fd 21) ["_law_held_here", "_law_x", "_law_y"] sp_in := by
  refine T.law_in.fn.ok sc_law_in (fun vs H Q E h => ?_) (fun cdv A outer s H vs Q E hr h => ?_)
  · obtain ⟨l, bs, x, y, rfl, _⟩ := h
    rfl
  obtain ⟨l, bs, x, y, rfl, ⟨hl, hn⟩, k⟩ := h
  have qpss_one := @pss_one
  have qps_ret := @ps_ret
  have qpe_and := @pe_and
  have qpe_chain := @pe_chain
  have qpe_int := @pe_int
  have qpv := @pv
  have qpe_one := @pe_one
  have qpe_ix := @pe_ix
  have qpe_op := @pe_op
  generalize @L2.PE = QE, @L2.PT = QT, @L2.PW = QW, @L2.PA = QA, @L2.PS = QS, @L2.PSs = QSs, @L2.PG = QG, @L2.PGs = QGs, @L2.PI = QI, @L2.PO = QO, @L2.PIf = QIf at qpss_one qps_ret qpe_and qpe_chain qpe_int qpv qpe_one qpe_ix qpe_op ⊢
  refine ⟨_,
    (qpss_one (qps_ret (qpe_and (qpe_chain op_le op_lt qpe_int (qpv 1) qpe_int) (qpe_and (qpe_chain op_le op_lt qpe_int (qpv 2) qpe_int) (qpe_one (qpe_ix ix_listH (qpv 0) (qpe_op op_add (qpe_op op_mul qpe_int (qpv 2)) (qpv 1)) (fun _ _ => rfl)))))))
    , ?_⟩
  clear  qpss_one qps_ret qpe_and qpe_chain qpe_int qpv qpe_one qpe_ix qpe_op QE QT QW QA QS QSs QG QGs QI QO QIf
  simp only [tChain, tSeq, tNext, tRet, tRetN, tIfS, tAsg, gName, tDrop, tVar, tC, tOp, tUn, rI, rI0, rU, rEq, rNe, tTest, tB, tNot, tAnd, tOr, tAndV, tOrV, tNotV, tIf, tCB, tCall, tNil, tCons, tTup, tLst, gTup, gCons, gNil, L2.start, rIsi, rIxT, rIxL, cx_K, tyN_non, tyN_bl, tyN_int, tyN_str, isi_ii, isi_ib, isi_it, isi_il, isi_bi, isi_bb, isi_tt, isi_ni, isi_si, isi_ti, isi_li, isi_di, isi_ll, scal_ii, scal_bb, sz0, sz1, sz2, sz3, sz4, List.map_cons, List.map_nil, List.length_cons, List.length_nil, List.replicate, List.cons_append, List.nil_append, List.append_nil, List.getElem?_cons_zero, List.getElem?_cons_succ, List.set_cons_zero, List.set_cons_succ, Option.some.injEq, V.int.injEq, V.bl.injEq, V.ref.injEq, V.ty.injEq, List.cons.injEq, and_true, true_and, exists_eq_left, exists_eq_left', exists_and_left, exists_and_right, exists_eq, exists_eq', and_assoc, Nat.reduceAdd, Nat.reduceSub, Bool.not_true, Bool.not_false, Bool.false_eq_true, if_true, if_false, reduceIte, Nat.zero_add, decide_true, decide_false, selC, comp_K, tYes, Option.join_some, rIxTH, rIxLH, rLenH, rIsiF, at0, at1, at2, at3, at4, at5, at6, at7, at8, HO.tup.injEq, HO.lst.injEq, reduceCtorEq, false_or, or_false, tyF_non, tyF_bl, tyF_int, tyF_str, exists_const, Int.reduceAdd, Int.reduceMul, Int.reduceSub, gSub, rSetL, tSl, tPart, tNoPart, rSlH, upd_same, upd_upd, rIntB, rListH, tBM, tBM0, rAppend, rClear, tPar, gTupH, hl]
  unfold inB at k
  by_cases hx : 0 ≤ x ∧ x < 4
  · rw [decide_eq_true hx] at k
    rw [decide_eq_true hx.1, decide_eq_true hx.2]
    by_cases hy : 0 ≤ y ∧ y < 4
    · rw [decide_eq_true hy] at k
      rw [decide_eq_true hy.1, decide_eq_true hy.2]
      have ej : (4 * y + x) = (((4 * y + x).toNat : Nat) : Int) := by omega
      have e : atI (bs.map V.bl) (4 * y + x) = some (.bl (bs.getD (4 * y + x).toNat false)) := by
        rw [ej]
        refine atI_nat ?_
        have lt : (4 * y + x).toNat < bs.length := by omega
        rw [← ej, List.getElem?_map, List.getD_eq_getElem?_getD, List.getElem?_eq_getElem lt]
        rfl
      refine iteT (iteT (iteT (iteT ⟨.inl ⟨by decide, by decide⟩, _, e, ?_⟩)))
      simpa using k
    · rw [decide_eq_false hy] at k
      refine iteT (iteT ?_)
      by_cases h1 : 0 ≤ y
      · rw [decide_eq_true h1, decide_eq_false (by omega : ¬ y < 4)]
        exact iteT (iteF (by simpa using k))
      · rw [decide_eq_false h1]
        exact iteF (by simpa using k)
  · rw [decide_eq_false hx] at k
    by_cases h1 : 0 ≤ x
    · rw [decide_eq_true h1, decide_eq_false (by omega : ¬ x < 4)]
      exact iteT (iteF (by simpa using k))
    · rw [decide_eq_false h1]
      exact iteF (by simpa using k)
theorem ok_law_edge (T : Txt K mg ad fd) : FnOk P w K mg base CX0 2 (ad 22) (fd 22) ["_law_held_here", "_law_x", "_law_y", "_law_way"] sp_edge := by
  refine T.law_edge.fn.ok sc_law_edge (fun vs H Q E h => ?_) (fun cdv A outer s H vs Q E hr h => ?_)
  · obtain ⟨l, bs, x, y, k, rfl, _⟩ := h
    rfl
  obtain ⟨l, bs, x, y, k, rfl, hb, q⟩ := h
  have qpss3 := @pss3
  have qps_set := @ps_set
  have qpe_callTy := @pe_callTy
  have qpa1 := @pa1
  have qpe_call := @pe_call
  have qpa3 := @pa3
  have qpv := @pv
  have qps_if := @ps_if
  have qpt_cmpR := @pt_cmpR
  have qpe_int := @pe_int
  have qpss_one := @pss_one
  have qps_ret := @ps_ret
  have qpe_op := @pe_op
  have qpss_nil := @pss_nil
  generalize @L2.PE = QE, @L2.PT = QT, @L2.PW = QW, @L2.PA = QA, @L2.PS = QS, @L2.PSs = QSs, @L2.PG = QG, @L2.PGs = QGs, @L2.PI = QI, @L2.PO = QO, @L2.PIf = QIf at qpss3 qps_set qpe_callTy qpa1 qpe_call qpa3 qpv qps_if qpt_cmpR qpe_int qpss_one qps_ret qpe_op qpss_nil ⊢
  refine ⟨_,
    (qpss3
      (qps_set (i := 4) sc_law_edge.nd rfl (Or.inl rfl) (qpe_callTy call_intB rfl T.b_int bt_int (qpa1 (qpe_call (ok_law_in T) (hr.mono (by decide)) rfl T.law_in.mg T.law_in.fn.kp T.law_in.bn .nil pass0 (qpa3 (qpv 0) ns_Name (qpv 1) ns_Name (qpv 2) ns_Name)) ns_Call)))
      (qps_if (qpt_cmpR op_eq (qpv 3) qpe_int (nomark _)) (qpss_one (qps_ret (qpe_op op_sub (qpv 4) (qpe_callTy call_intB rfl T.b_int bt_int (qpa1 (qpe_call (ok_law_in T) (hr.mono (by decide)) rfl T.law_in.mg T.law_in.fn.kp T.law_in.bn .nil pass0 (qpa3 (qpv 0) ns_Name (qpv 1) ns_Name (qpe_op op_sub (qpv 2) qpe_int) ns_BinOp)) ns_Call))))) qpss_nil)
      (qps_ret (qpe_op op_sub (qpe_callTy call_intB rfl T.b_int bt_int (qpa1 (qpe_call (ok_law_in T) (hr.mono (by decide)) rfl T.law_in.mg T.law_in.fn.kp T.law_in.bn .nil pass0 (qpa3 (qpv 0) ns_Name (qpe_op op_sub (qpv 1) qpe_int) ns_BinOp (qpv 2) ns_Name)) ns_Call)) (qpv 4))))
    , ?_⟩
  clear  qpss3 qps_set qpe_callTy qpa1 qpe_call qpa3 qpv qps_if qpt_cmpR qpe_int qpss_one qps_ret qpe_op qpss_nil QE QT QW QA QS QSs QG QGs QI QO QIf
  simp only [sp_in, tSeq, tNext, tRet, tRetN, tIfS, tAsg, gName, tDrop, tVar, tC, tOp, tUn, rI, rI0, rU, rEq, rNe, tTest, tB, tNot, tAnd, tOr, tAndV, tOrV, tNotV, tIf, tCB, tCall, tNil, tCons, tTup, tLst, gTup, gCons, gNil, L2.start, rIsi, rIxT, rIxL, cx_K, tyN_non, tyN_bl, tyN_int, tyN_str, isi_ii, isi_ib, isi_it, isi_il, isi_bi, isi_bb, isi_tt, isi_ni, isi_si, isi_ti, isi_li, isi_di, isi_ll, scal_ii, scal_bb, sz0, sz1, sz2, sz3, sz4, List.map_cons, List.map_nil, List.length_cons, List.length_nil, List.replicate, List.cons_append, List.nil_append, List.append_nil, List.getElem?_cons_zero, List.getElem?_cons_succ, List.set_cons_zero, List.set_cons_succ, Option.some.injEq, V.int.injEq, V.bl.injEq, V.ref.injEq, V.ty.injEq, List.cons.injEq, and_true, true_and, exists_eq_left, exists_eq_left', exists_and_left, exists_and_right, exists_eq, exists_eq', and_assoc, Nat.reduceAdd, Nat.reduceSub, Bool.not_true, Bool.not_false, Bool.false_eq_true, if_true, if_false, reduceIte, Nat.zero_add, decide_true, decide_false, selC, comp_K, tYes, Option.join_some, rIxTH, rIxLH, rLenH, rIsiF, at0, at1, at2, at3, at4, at5, at6, at7, at8, HO.tup.injEq, HO.lst.injEq, reduceCtorEq, false_or, or_false, tyF_non, tyF_bl, tyF_int, tyF_str, exists_const, Int.reduceAdd, Int.reduceMul, Int.reduceSub, gSub, rSetL, tSl, tPart, tNoPart, rSlH, upd_same, upd_upd, rIntB, rListH, tBM, tBM0, rAppend, rClear, tPar, gTupH]
  unfold edV at q
  refine ⟨bs, hb, ite2 (fun c => ⟨bs, hb, ?_⟩) (fun c => ⟨bs, hb, ?_⟩)⟩
  · rw [if_pos (of_decide_eq_true c)] at q
    exact q
  · rw [if_neg fun z => c (decide_eq_true z)] at q
    exact q
theorem rd_l2 {K : PySem.W.Frag} {H : Hp} {p : Addr} {a b : Int} (h : H p = some (.lst [.int a, .int b])) : RdD K H (.list [.int a, .int b]) (.ref p) := by
  rw [RdD]
  refine ⟨p, _, rfl, .of h, ?_⟩
  rw [RdDs]
  refine ⟨_, _, rfl, by rw [RdD], ?_⟩
  rw [RdDs]
  refine ⟨_, _, rfl, by rw [RdD], ?_⟩
  rw [RdDs]
theorem l2_shaped (a b : Int) : SeqAt.shaped (.list [.int a, .int b]) = true := by
  simp [SeqAt.shaped, PyData.canLay0, PyData.canLayAll0, PyData.depth, PyData.depthAll]
theorem l2_eqv (a b c d : Int) : PyData.eqv (.list [.int a, .int b]) (.list [.int c, .int d]) = decide (a = c ∧ b = d) := by
  rw [Bool.eq_iff_iff]
  simp [PyData.eqv, PyData.eqvAll]
theorem ok_law_smooth (T : Txt K mg ad fd) : FnOk P w K mg base CX0 3 (ad 23) (fd 23) ["_law_held_here", "_law_x", "_law_y"] sp_smooth := by
  refine T.law_smooth.fn.ok sc_law_smooth (fun vs H Q E h => ?_) (fun cdv A outer s H vs Q E hr h => ?_)
  · obtain ⟨l, bs, x, y, rfl, _⟩ := h
    rfl
  obtain ⟨l, bs, x, y, rfl, hb, q⟩ := h
  have qpss4 := @pss4
  have qps_set := @ps_set
  have qpe_lst := @pe_lst
  have qpa2 := @pa2
  have qpe_call := @pe_call
  have qpa4 := @pa4
  have qpv := @pv
  have qpe_op := @pe_op
  have qpe_int := @pe_int
  have qps_if := @ps_if
  have qpt_cmpR := @pt_cmpR
  have qpss_one := @pss_one
  have qps_ret := @ps_ret
  have qpe_and := @pe_and
  have qpe_cmpR := @pe_cmpR
  have qpe_ix := @pe_ix
  have qpe_one := @pe_one
  have qpss_nil := @pss_nil
  generalize @L2.PE = QE, @L2.PT = QT, @L2.PW = QW, @L2.PA = QA, @L2.PS = QS, @L2.PSs = QSs, @L2.PG = QG, @L2.PGs = QGs, @L2.PI = QI, @L2.PO = QO, @L2.PIf = QIf at qpss4 qps_set qpe_lst qpa2 qpe_call qpa4 qpv qpe_op qpe_int qps_if qpt_cmpR qpss_one qps_ret qpe_and qpe_cmpR qpe_ix qpe_one qpss_nil ⊢
  refine ⟨_,
    (qpss4
      (qps_set (i := 3) sc_law_smooth.nd rfl (Or.inl rfl) (qpe_lst (qpa2 (qpe_call (ok_law_edge T) (hr.mono (by decide)) rfl T.law_edge.mg T.law_edge.fn.kp T.law_edge.bn .nil pass0 (qpa4 (qpv 0) ns_Name (qpe_op op_sub (qpv 1) qpe_int) ns_BinOp (qpv 2) ns_Name qpe_int ns_Constant)) ns_Call (qpe_call (ok_law_edge T) (hr.mono (by decide)) rfl T.law_edge.mg T.law_edge.fn.kp T.law_edge.bn .nil pass0 (qpa4 (qpv 0) ns_Name (qpv 1) ns_Name (qpv 2) ns_Name qpe_int ns_Constant)) ns_Call)))
      (qps_set (i := 4) sc_law_smooth.nd rfl (Or.inl rfl) (qpe_lst (qpa2 (qpe_call (ok_law_edge T) (hr.mono (by decide)) rfl T.law_edge.mg T.law_edge.fn.kp T.law_edge.bn .nil pass0 (qpa4 (qpv 0) ns_Name (qpv 1) ns_Name (qpe_op op_sub (qpv 2) qpe_int) ns_BinOp qpe_int ns_Constant)) ns_Call (qpe_call (ok_law_edge T) (hr.mono (by decide)) rfl T.law_edge.mg T.law_edge.fn.kp T.law_edge.bn .nil pass0 (qpa4 (qpv 0) ns_Name (qpv 1) ns_Name (qpv 2) ns_Name qpe_int ns_Constant)) ns_Call)))
      (qps_if (qpt_cmpR (op_eqD (hu64 hr)) (qpv 3) (qpe_lst (qpa2 qpe_int ns_Constant qpe_int ns_Constant)) (nomark _)) (qpss_one (qps_ret (qpe_and (qpe_cmpR op_ne (qpe_ix ix_listH (qpv 4) qpe_int (fun _ _ => rfl)) qpe_int (nomark _)) (qpe_one (qpe_cmpR op_eq (qpe_ix ix_listH (qpv 4) qpe_int (fun _ _ => rfl)) (qpe_ix ix_listH (qpv 4) qpe_int (fun _ _ => rfl)) (nomark _)))))) qpss_nil)
      (qps_ret (qpe_and (qpe_cmpR (op_eqD (hu64 hr)) (qpv 4) (qpe_lst (qpa2 qpe_int ns_Constant qpe_int ns_Constant)) (nomark _)) (qpe_one (qpe_cmpR op_eq (qpe_ix ix_listH (qpv 3) qpe_int (fun _ _ => rfl)) (qpe_ix ix_listH (qpv 3) qpe_int (fun _ _ => rfl)) (nomark _))))))
    , ?_⟩
  clear  qpss4 qps_set qpe_lst qpa2 qpe_call qpa4 qpv qpe_op qpe_int qps_if qpt_cmpR qpss_one qps_ret qpe_and qpe_cmpR qpe_ix qpe_one qpss_nil QE QT QW QA QS QSs QG QGs QI QO QIf
  simp only [sp_edge, tSeq, tNext, tRet, tRetN, tIfS, tAsg, gName, tDrop, tVar, tC, tOp, tUn, rI, rI0, rU, rEq, rNe, tTest, tB, tNot, tAnd, tOr, tAndV, tOrV, tNotV, tIf, tCB, tCall, tNil, tCons, tTup, tLst, gTup, gCons, gNil, L2.start, rIsi, rIxT, rIxL, cx_K, tyN_non, tyN_bl, tyN_int, tyN_str, isi_ii, isi_ib, isi_it, isi_il, isi_bi, isi_bb, isi_tt, isi_ni, isi_si, isi_ti, isi_li, isi_di, isi_ll, scal_ii, scal_bb, sz0, sz1, sz2, sz3, sz4, List.map_cons, List.map_nil, List.length_cons, List.length_nil, List.replicate, List.cons_append, List.nil_append, List.append_nil, List.getElem?_cons_zero, List.getElem?_cons_succ, List.set_cons_zero, List.set_cons_succ, Option.some.injEq, V.int.injEq, V.bl.injEq, V.ref.injEq, V.ty.injEq, List.cons.injEq, and_true, true_and, exists_eq_left, exists_eq_left', exists_and_left, exists_and_right, exists_eq, exists_eq', and_assoc, Nat.reduceAdd, Nat.reduceSub, Bool.not_true, Bool.not_false, Bool.false_eq_true, if_true, if_false, reduceIte, Nat.zero_add, decide_true, decide_false, selC, comp_K, tYes, Option.join_some, rIxTH, rIxLH, rLenH, rIsiF, at0, at1, at2, at3, at4, at5, at6, at7, at8, HO.tup.injEq, HO.lst.injEq, reduceCtorEq, false_or, or_false, tyF_non, tyF_bl, tyF_int, tyF_str, exists_const, Int.reduceAdd, Int.reduceMul, Int.reduceSub, gSub, rSetL, tSl, tPart, tNoPart, rSlH, upd_same, upd_upd, rIntB, rListH, tBM, tBM0, rAppend, rClear, tPar, gTupH]
  unfold smB at q
  refine ⟨bs, hb, bs, hb, fun p hp => ?_⟩
  have e0 : ∀ a b, edV (inB bs) a b 0 = eH (inB bs) a b := fun _ _ => rfl
  rw [e0, e0]
  generalize eH (inB bs) (x - 1) y = f1 at *
  generalize eH (inB bs) x y = f2 at *
  have gp := same_new hp (HO.lst [V.int f1, V.int f2])
  have hp1 : upd H p (HO.lst [V.int f1, V.int f2]) p = some (HO.lst [V.int f1, V.int f2]) := upd_same
  have hb1 := hb.same gp
  generalize upd H p (HO.lst [V.int f1, V.int f2]) = H1 at *
  refine ⟨bs, hb1, bs, hb1, fun p1 h1 p2 => ?_⟩
  have e1 : ∀ a b, edV (inB bs) a b 1 = eV (inB bs) a b := fun _ _ => rfl
  rw [e1, e1]
  generalize eV (inB bs) x (y - 1) = t1 at *
  generalize eV (inB bs) x y = t2 at *
  intro h2
  have g1 := same_new h1 (HO.lst [V.int t1, V.int t2])
  have hp11 : upd H1 p1 (HO.lst [V.int t1, V.int t2]) p1 = some (HO.lst [V.int t1, V.int t2]) := upd_same
  have hpp := g1 _ _ hp1
  generalize upd H1 p1 (HO.lst [V.int t1, V.int t2]) = H2 at *
  have g2 := same_new h2 (HO.lst [V.int 0, V.int 0])
  have hz : upd H2 p2 (HO.lst [V.int 0, V.int 0]) p2 = some (HO.lst [V.int 0, V.int 0]) := upd_same
  have hpA := g2 _ _ hpp
  have hpB := g2 _ _ hp11
  generalize upd H2 p2 (HO.lst [V.int 0, V.int 0]) = H3 at *
  have gA := gp.trans (g1.trans g2)
  refine ⟨_, _, rd_l2 hpA, rd_l2 hz, l2_shaped _ _, l2_shaped _ _, _, rfl, ?_⟩
  rw [l2_eqv]
  have z := q _ gA
  by_cases c : f1 = 0 ∧ f2 = 0
  · rw [if_pos c] at z
    rw [decide_eq_true c]
    refine iteT ?_
    simp only [tSeq, tNext, tRet, tRetN, tIfS, tAsg, gName, tDrop, tVar, tC, tOp, tUn, rI, rI0, rU, rEq, rNe, tTest, tB, tNot, tAnd, tOr, tAndV, tOrV, tNotV, tIf, tCB, tCall, tNil, tCons, tTup, tLst, gTup, gCons, gNil, L2.start, rIsi, rIxT, rIxL, cx_K, tyN_non, tyN_bl, tyN_int, tyN_str, isi_ii, isi_ib, isi_it, isi_il, isi_bi, isi_bb, isi_tt, isi_ni, isi_si, isi_ti, isi_li, isi_di, isi_ll, scal_ii, scal_bb, sz0, sz1, sz2, sz3, sz4, List.map_cons, List.map_nil, List.length_cons, List.length_nil, List.replicate, List.cons_append, List.nil_append, List.append_nil, List.getElem?_cons_zero, List.getElem?_cons_succ, List.set_cons_zero, List.set_cons_succ, Option.some.injEq, V.int.injEq, V.bl.injEq, V.ref.injEq, V.ty.injEq, List.cons.injEq, and_true, true_and, exists_eq_left, exists_eq_left', exists_and_left, exists_and_right, exists_eq, exists_eq', and_assoc, Nat.reduceAdd, Nat.reduceSub, Bool.not_true, Bool.not_false, Bool.false_eq_true, if_true, if_false, reduceIte, Nat.zero_add, decide_true, decide_false, selC, comp_K, tYes, Option.join_some, rIxTH, rIxLH, rLenH, rIsiF, at0, at1, at2, at3, at4, at5, at6, at7, at8, HO.tup.injEq, HO.lst.injEq, reduceCtorEq, false_or, or_false, tyF_non, tyF_bl, tyF_int, tyF_str, exists_const, Int.reduceAdd, Int.reduceMul, Int.reduceSub, gSub, rSetL, tSl, tPart, tNoPart, rSlH, upd_same, upd_upd, rIntB, rListH, tBM, tBM0, rAppend, rClear, tPar, gTupH, hpB]
    refine ite2 (fun c' => ?_) (fun c' => ?_)
    · have d : t1 ≠ 0 := by simpa using c'
      have e : decide (t1 ≠ 0 ∧ t1 = t2) = decide (t1 = t2) := decide_eq_decide.mpr ⟨And.right, fun h => ⟨d, h⟩⟩
      rw [e] at z
      exact z
    · have d : t1 = 0 := by simpa using c'
      rw [decide_eq_false (fun h => h.1 d)] at z
      exact z
  · rw [decide_eq_false c]
    refine iteF fun p3 h3 => ?_
    have g3 := same_new h3 (HO.lst [V.int 0, V.int 0])
    have hz3 : upd H3 p3 (HO.lst [V.int 0, V.int 0]) p3 = some (HO.lst [V.int 0, V.int 0]) := upd_same
    have hpC := g3 _ _ hpB
    have hpD := g3 _ _ hpA
    generalize upd H3 p3 (HO.lst [V.int 0, V.int 0]) = H4 at *
    have z := q _ (gA.trans g3)
    rw [if_neg c] at z
    refine ⟨_, _, rd_l2 hpC, rd_l2 hz3, l2_shaped _ _, l2_shaped _ _, _, rfl, ?_⟩
    rw [l2_eqv]
    by_cases d : t1 = 0 ∧ t2 = 0
    · rw [decide_eq_true d]
      refine iteT ?_
      simp only [tSeq, tNext, tRet, tRetN, tIfS, tAsg, gName, tDrop, tVar, tC, tOp, tUn, rI, rI0, rU, rEq, rNe, tTest, tB, tNot, tAnd, tOr, tAndV, tOrV, tNotV, tIf, tCB, tCall, tNil, tCons, tTup, tLst, gTup, gCons, gNil, L2.start, rIsi, rIxT, rIxL, cx_K, tyN_non, tyN_bl, tyN_int, tyN_str, isi_ii, isi_ib, isi_it, isi_il, isi_bi, isi_bb, isi_tt, isi_ni, isi_si, isi_ti, isi_li, isi_di, isi_ll, scal_ii, scal_bb, sz0, sz1, sz2, sz3, sz4, List.map_cons, List.map_nil, List.length_cons, List.length_nil, List.replicate, List.cons_append, List.nil_append, List.append_nil, List.getElem?_cons_zero, List.getElem?_cons_succ, List.set_cons_zero, List.set_cons_succ, Option.some.injEq, V.int.injEq, V.bl.injEq, V.ref.injEq, V.ty.injEq, List.cons.injEq, and_true, true_and, exists_eq_left, exists_eq_left', exists_and_left, exists_and_right, exists_eq, exists_eq', and_assoc, Nat.reduceAdd, Nat.reduceSub, Bool.not_true, Bool.not_false, Bool.false_eq_true, if_true, if_false, reduceIte, Nat.zero_add, decide_true, decide_false, selC, comp_K, tYes, Option.join_some, rIxTH, rIxLH, rLenH, rIsiF, at0, at1, at2, at3, at4, at5, at6, at7, at8, HO.tup.injEq, HO.lst.injEq, reduceCtorEq, false_or, or_false, tyF_non, tyF_bl, tyF_int, tyF_str, exists_const, Int.reduceAdd, Int.reduceMul, Int.reduceSub, gSub, rSetL, tSl, tPart, tNoPart, rSlH, upd_same, upd_upd, rIntB, rListH, tBM, tBM0, rAppend, rClear, tPar, gTupH, hpD]
      have e : decide ((t1 = 0 ∧ t2 = 0) ∧ f1 = f2) = decide (f1 = f2) := decide_eq_decide.mpr ⟨And.right, fun h => ⟨d, h⟩⟩
      rw [e] at z
      exact z
    · rw [decide_eq_false d]
      rw [decide_eq_false (fun h => d h.1)] at z
      exact iteF z
theorem ok_law_leaves (T : Txt K mg ad fd) : FnOk P w K mg base CX0 3 (ad 24) (fd 24) ["_law_held_here", "_law_x", "_law_y", "_law_dx", "_law_dy"] sp_leaves := by
  refine T.law_leaves.fn.ok sc_law_leaves (fun vs H Q E h => ?_) (fun cdv A outer s H vs Q E hr h => ?_)
  · obtain ⟨l, bs, x, y, dx, dy, rfl, _⟩ := h
    rfl
  obtain ⟨l, bs, x, y, dx, dy, rfl, hb, q⟩ := h
  have qpss2 := @pss2
  have qps_if := @ps_if
  have qpt_cmpR := @pt_cmpR
  have qpv := @pv
  have qpe_int := @pe_int
  have qpss_one := @pss_one
  have qps_ret := @ps_ret
  have qpe_cmpR := @pe_cmpR
  have qpe_call := @pe_call
  have qpa4 := @pa4
  have qpe_op := @pe_op
  have qpe_callB := @pe_callB
  have qpa2 := @pa2
  have qpss_nil := @pss_nil
  generalize @L2.PE = QE, @L2.PT = QT, @L2.PW = QW, @L2.PA = QA, @L2.PS = QS, @L2.PSs = QSs, @L2.PG = QG, @L2.PGs = QGs, @L2.PI = QI, @L2.PO = QO, @L2.PIf = QIf at qpss2 qps_if qpt_cmpR qpv qpe_int qpss_one qps_ret qpe_cmpR qpe_call qpa4 qpe_op qpe_callB qpa2 qpss_nil ⊢
  refine ⟨_,
    (qpss2
      (qps_if (qpt_cmpR op_eq (qpv 4) qpe_int (nomark _)) (qpss_one (qps_ret (qpe_cmpR op_eq (qpe_call (ok_law_edge T) (hr.mono (by decide)) rfl T.law_edge.mg T.law_edge.fn.kp T.law_edge.bn .nil pass0 (qpa4 (qpv 0) ns_Name (qpe_op op_add (qpv 1) (qpe_callB (call_min2 rfl) rfl T.b_min bt_min (qpa2 (qpv 3) ns_Name qpe_int ns_Constant))) ns_BinOp (qpv 2) ns_Name qpe_int ns_Constant)) (qpv 3) (nomark _)))) qpss_nil)
      (qps_ret (qpe_cmpR op_eq (qpe_call (ok_law_edge T) (hr.mono (by decide)) rfl T.law_edge.mg T.law_edge.fn.kp T.law_edge.bn .nil pass0 (qpa4 (qpv 0) ns_Name (qpv 1) ns_Name (qpe_op op_add (qpv 2) (qpe_callB (call_min2 rfl) rfl T.b_min bt_min (qpa2 (qpv 4) ns_Name qpe_int ns_Constant))) ns_BinOp qpe_int ns_Constant)) (qpv 4) (nomark _))))
    , ?_⟩
  clear  qpss2 qps_if qpt_cmpR qpv qpe_int qpss_one qps_ret qpe_cmpR qpe_call qpa4 qpe_op qpe_callB qpa2 qpss_nil QE QT QW QA QS QSs QG QGs QI QO QIf
  simp only [sp_edge, tSeq, tNext, tRet, tRetN, tIfS, tAsg, gName, tDrop, tVar, tC, tOp, tUn, rI, rI0, rU, rEq, rNe, tTest, tB, tNot, tAnd, tOr, tAndV, tOrV, tNotV, tIf, tCB, tCall, tNil, tCons, tTup, tLst, gTup, gCons, gNil, L2.start, rIsi, rIxT, rIxL, cx_K, tyN_non, tyN_bl, tyN_int, tyN_str, isi_ii, isi_ib, isi_it, isi_il, isi_bi, isi_bb, isi_tt, isi_ni, isi_si, isi_ti, isi_li, isi_di, isi_ll, scal_ii, scal_bb, sz0, sz1, sz2, sz3, sz4, List.map_cons, List.map_nil, List.length_cons, List.length_nil, List.replicate, List.cons_append, List.nil_append, List.append_nil, List.getElem?_cons_zero, List.getElem?_cons_succ, List.set_cons_zero, List.set_cons_succ, Option.some.injEq, V.int.injEq, V.bl.injEq, V.ref.injEq, V.ty.injEq, List.cons.injEq, and_true, true_and, exists_eq_left, exists_eq_left', exists_and_left, exists_and_right, exists_eq, exists_eq', and_assoc, Nat.reduceAdd, Nat.reduceSub, Bool.not_true, Bool.not_false, Bool.false_eq_true, if_true, if_false, reduceIte, Nat.zero_add, decide_true, decide_false, selC, comp_K, tYes, Option.join_some, rIxTH, rIxLH, rLenH, rIsiF, at0, at1, at2, at3, at4, at5, at6, at7, at8, HO.tup.injEq, HO.lst.injEq, reduceCtorEq, false_or, or_false, tyF_non, tyF_bl, tyF_int, tyF_str, exists_const, Int.reduceAdd, Int.reduceMul, Int.reduceSub, gSub, rSetL, tSl, tPart, tNoPart, rSlH, upd_same, upd_upd, rIntB, rListH, tBM, tBM0, rAppend, rClear, tPar, gTupH]
  unfold lvB at q
  refine ite2 (fun c => ⟨bs, hb, ?_⟩) (fun c => ⟨bs, hb, ?_⟩)
  · rw [if_pos (of_decide_eq_true c)] at q
    exact q
  · rw [if_neg fun z => c (decide_eq_true z)] at q
    exact q
theorem ok_law_spot (T : Txt K mg ad fd) : FnOk P w K mg base CX0 1 (ad 27) (fd 27) ["_law_map_of", "_law_x", "_law_y", "_law_w"] sp_spot := by
  refine T.law_spot.fn.ok sc_law_spot (fun vs H Q E h => ?_) (fun cdv A outer s H vs Q E hr h => ?_)
  · obtain ⟨p, M, x, y, k, rfl, _⟩ := h
    rfl
  obtain ⟨p, M, x, y, k, rfl, ⟨hp, hM⟩, lx, ly, lk, q⟩ := h
  have qpss3 := @pss3
  have qps_set := @ps_set
  have qpe_op := @pe_op
  have qpe_ix := @pe_ix
  have qpv := @pv
  have qpe_int := @pe_int
  have qps_ret := @ps_ret
  have qpe_tup := @pe_tup
  have qpa3 := @pa3
  generalize @L2.PE = QE, @L2.PT = QT, @L2.PW = QW, @L2.PA = QA, @L2.PS = QS, @L2.PSs = QSs, @L2.PG = QG, @L2.PGs = QGs, @L2.PI = QI, @L2.PO = QO, @L2.PIf = QIf at qpss3 qps_set qpe_op qpe_ix qpv qpe_int qps_ret qpe_tup qpa3 ⊢
  refine ⟨_,
    (qpss3
      (qps_set (i := 4) sc_law_spot.nd rfl (Or.inl rfl) (qpe_op op_add (qpe_op op_add (qpe_op op_mulB (qpe_ix ix_tupH (qpv 0) qpe_int (fun _ _ => rfl)) (qpv 1)) (qpe_op op_mulB (qpe_ix ix_tupH (qpv 0) qpe_int (fun _ _ => rfl)) (qpv 2))) (qpe_op op_mulB (qpe_ix ix_tupH (qpv 0) qpe_int (fun _ _ => rfl)) (qpv 3))))
      (qps_set (i := 5) sc_law_spot.nd rfl (Or.inl rfl) (qpe_op op_add (qpe_op op_add (qpe_op op_mulB (qpe_ix ix_tupH (qpv 0) qpe_int (fun _ _ => rfl)) (qpv 1)) (qpe_op op_mulB (qpe_ix ix_tupH (qpv 0) qpe_int (fun _ _ => rfl)) (qpv 2))) (qpe_op op_mulB (qpe_ix ix_tupH (qpv 0) qpe_int (fun _ _ => rfl)) (qpv 3))))
      (qps_ret (qpe_tup (qpa3 (qpv 4) ns_Name (qpv 5) ns_Name (qpe_op op_mulB (qpe_ix ix_tupH (qpv 0) qpe_int (fun _ _ => rfl)) (qpv 3)) ns_BinOp))))
    , ?_⟩
  clear  qpss3 qps_set qpe_op qpe_ix qpv qpe_int qps_ret qpe_tup qpa3 QE QT QW QA QS QSs QG QGs QI QO QIf
  simp only [tSeq, tNext, tRet, tRetN, tIfS, tAsg, gName, tDrop, tVar, tC, tOp, tUn, rI, rI0, rU, rEq, rNe, tTest, tB, tNot, tAnd, tOr, tAndV, tOrV, tNotV, tIf, tCB, tCall, tNil, tCons, tTup, tLst, gTup, gCons, gNil, L2.start, rIsi, rIxT, rIxL, cx_K, tyN_non, tyN_bl, tyN_int, tyN_str, isi_ii, isi_ib, isi_it, isi_il, isi_bi, isi_bb, isi_tt, isi_ni, isi_si, isi_ti, isi_li, isi_di, isi_ll, scal_ii, scal_bb, sz0, sz1, sz2, sz3, sz4, List.map_cons, List.map_nil, List.length_cons, List.length_nil, List.replicate, List.cons_append, List.nil_append, List.append_nil, List.getElem?_cons_zero, List.getElem?_cons_succ, List.set_cons_zero, List.set_cons_succ, Option.some.injEq, V.int.injEq, V.bl.injEq, V.ref.injEq, V.ty.injEq, List.cons.injEq, and_true, true_and, exists_eq_left, exists_eq_left', exists_and_left, exists_and_right, exists_eq, exists_eq', and_assoc, Nat.reduceAdd, Nat.reduceSub, Bool.not_true, Bool.not_false, Bool.false_eq_true, if_true, if_false, reduceIte, Nat.zero_add, decide_true, decide_false, selC, comp_K, tYes, Option.join_some, rIxTH, rIxLH, rLenH, rIsiF, at0, at1, at2, at3, at4, at5, at6, at7, at8, HO.tup.injEq, HO.lst.injEq, reduceCtorEq, false_or, or_false, tyF_non, tyF_bl, tyF_int, tyF_str, exists_const, Int.reduceAdd, Int.reduceMul, Int.reduceSub, gSub, rSetL, tSl, tPart, tNoPart, rSlH, upd_same, upd_upd, rIntB, rListH, tBM, tBM0, rAppend, rClear, tPar, gTupH, hp]
  obtain ⟨qa, qb, qc, qd⟩ := quad_le hM.q
  have sm : ∀ {z : Int}, z.natAbs ≤ 20 → z.natAbs < 2 ^ 70 := fun h => Nat.lt_of_le_of_lt h (by decide)
  have s5 : ∀ {z : Int}, z.natAbs ≤ 5 → z.natAbs < 2 ^ 70 := fun h => sm (by omega)
  have s2 : ∀ {z : Int}, z.natAbs ≤ 2 → z.natAbs < 2 ^ 70 := fun h => sm (by omega)
  have mm : M.m.natAbs < 2 ^ 70 := sm (by have := hM.m; omega)
  exact ⟨cbig (s5 qa) (sm lx), cbig (s5 qb) (sm ly), cbig hM.e (s2 lk), cbig (s5 qc) (sm lx), cbig (s5 qd) (sm ly), cbig hM.f (s2 lk), cbig mm (s2 lk), fun r hr' => q r _ (same_new hr' _) upd_same⟩
theorem loI_succ {r : Q3} {i : Nat} {d : Int} (h : ([2, 2, 3, 3] : List Int)[i]? = some d) : loI r (i + 1) = loS d (loI r i) := by
  unfold loI
  rw [List.take_add_one, h, List.foldl_append]
  rfl
theorem arI_succ {r : T2} {i : Nat} {d : Int} (h : ([2, 2, 3, 3] : List Int)[i]? = some d) : arI r (i + 1) = arS d (arI r i) := by
  unfold arI
  rw [List.take_add_one, h, List.foldl_append]
  rfl
theorem d23 {i : Nat} {v : V} (h : ([V.int 2, V.int 2, V.int 3, V.int 3] : List V)[i]? = some v) : ∃ d : Int, v = .int d ∧ ([2, 2, 3, 3] : List Int)[i]? = some d ∧ (d = 2 ∨ d = 3) := by
  match i, h with
  | 0, h => cases h; exact ⟨2, rfl, rfl, .inl rfl⟩
  | 1, h => cases h; exact ⟨2, rfl, rfl, .inl rfl⟩
  | 2, h => cases h; exact ⟨3, rfl, rfl, .inr rfl⟩
  | 3, h => cases h; exact ⟨3, rfl, rfl, .inr rfl⟩
theorem fm_of {x d : Int} (h : d = 2 ∨ d = 3) : x.fmod d = x % d ∧ x.fdiv d = x / d := ⟨Int.fmod_eq_emod_of_nonneg _ (by omega), Int.fdiv_eq_ediv_of_nonneg _ (by omega)⟩
theorem ok_law_low (T : Txt K mg ad fd) : FnOk P w K mg base CX0 1 (ad 28) (fd 28) ["_law_spot_here"] sp_low := by
  refine T.law_low.fn.ok sc_law_low (fun vs H Q E h => ?_) (fun cdv A outer s H vs Q E hr h => ?_)
  · obtain ⟨p, r, rfl, _⟩ := h
    rfl
  obtain ⟨p, r, rfl, hp, k⟩ := h
  have qpss5 := @pss5
  have qps_set := @ps_set
  have qpe_ix := @pe_ix
  have qpv := @pv
  have qpe_int := @pe_int
  have qps_for := @ps_for
  have qpi_list := @pi_list
  have qpe_lst := @pe_lst
  have qpa4 := @pa4
  have qpg_name := @pg_name
  have qpss_one := @pss_one
  have qps_if := @ps_if
  have qPWpt := @PW.pt
  have qpw_and := @pw_and
  have qpt_cmpR := @pt_cmpR
  have qpe_op := @pe_op
  have qpw_and1 := @pw_and1
  have qpss3 := @pss3
  have qpss_nil := @pss_nil
  have qps_ret := @ps_ret
  have qpe_tup := @pe_tup
  have qpa3 := @pa3
  generalize @L2.PE = QE, @L2.PT = QT, @L2.PW = QW, @L2.PA = QA, @L2.PS = QS, @L2.PSs = QSs, @L2.PG = QG, @L2.PGs = QGs, @L2.PI = QI, @L2.PO = QO, @L2.PIf = QIf at qpss5 qps_set qpe_ix qpv qpe_int qps_for qpi_list qpe_lst qpa4 qpg_name qpss_one qps_if qPWpt qpw_and qpt_cmpR qpe_op qpw_and1 qpss3 qpss_nil qps_ret qpe_tup qpa3 ⊢
  refine ⟨_,
    (qpss5
      (qps_set (i := 1) sc_law_low.nd rfl (Or.inl rfl) (qpe_ix ix_tupH (qpv 0) qpe_int (fun _ _ => rfl)))
      (qps_set (i := 2) sc_law_low.nd rfl (Or.inl rfl) (qpe_ix ix_tupH (qpv 0) qpe_int (fun _ _ => rfl)))
      (qps_set (i := 3) sc_law_low.nd rfl (Or.inl rfl) (qpe_ix ix_tupH (qpv 0) qpe_int (fun _ _ => rfl)))
      (qps_for PassesOwn.never rfl (qpi_list (qpe_lst (qpa4 qpe_int ns_Constant qpe_int ns_Constant qpe_int ns_Constant qpe_int ns_Constant))) (qpg_name (i := 4) sc_law_low.nd rfl (Or.inl rfl)) (qpss_one (qps_if (qPWpt (qpw_and (qpt_cmpR op_eq (qpe_op op_modN (qpv 1) (qpv 4)) qpe_int (nomark _)) (qpw_and (qpt_cmpR op_eq (qpe_op op_modN (qpv 2) (qpv 4)) qpe_int (nomark _)) (qpw_and1 (qpt_cmpR op_eq (qpe_op op_modN (qpv 3) (qpv 4)) qpe_int (nomark _)))))) (qpss3
      (qps_set (i := 1) sc_law_low.nd rfl (Or.inl rfl) (qpe_op op_fdivB (qpv 1) (qpv 4)))
      (qps_set (i := 2) sc_law_low.nd rfl (Or.inl rfl) (qpe_op op_fdivB (qpv 2) (qpv 4)))
      (qps_set (i := 3) sc_law_low.nd rfl (Or.inl rfl) (qpe_op op_fdivB (qpv 3) (qpv 4)))) qpss_nil)))
      (qps_ret (qpe_tup (qpa3 (qpv 1) ns_Name (qpv 2) ns_Name (qpv 3) ns_Name))))
    , ?_⟩
  clear  qpss5 qps_set qpe_ix qpv qpe_int qps_for qpi_list qpe_lst qpa4 qpg_name qpss_one qps_if qPWpt qpw_and qpt_cmpR qpe_op qpw_and1 qpss3 qpss_nil qps_ret qpe_tup qpa3 QE QT QW QA QS QSs QG QGs QI QO QIf
  unfold QH at hp
  simp only [tSeq, tNext, tRet, tRetN, tIfS, tAsg, gName, tDrop, tVar, tC, tOp, tUn, rI, rI0, rU, rEq, rNe, tTest, tB, tNot, tAnd, tOr, tAndV, tOrV, tNotV, tIf, tCB, tCall, tNil, tCons, tTup, tLst, gTup, gCons, gNil, L2.start, rIsi, rIxT, rIxL, cx_K, tyN_non, tyN_bl, tyN_int, tyN_str, isi_ii, isi_ib, isi_it, isi_il, isi_bi, isi_bb, isi_tt, isi_ni, isi_si, isi_ti, isi_li, isi_di, isi_ll, scal_ii, scal_bb, sz0, sz1, sz2, sz3, sz4, List.map_cons, List.map_nil, List.length_cons, List.length_nil, List.replicate, List.cons_append, List.nil_append, List.append_nil, List.getElem?_cons_zero, List.getElem?_cons_succ, List.set_cons_zero, List.set_cons_succ, Option.some.injEq, V.int.injEq, V.bl.injEq, V.ref.injEq, V.ty.injEq, List.cons.injEq, and_true, true_and, exists_eq_left, exists_eq_left', exists_and_left, exists_and_right, exists_eq, exists_eq', and_assoc, Nat.reduceAdd, Nat.reduceSub, Bool.not_true, Bool.not_false, Bool.false_eq_true, if_true, if_false, reduceIte, Nat.zero_add, decide_true, decide_false, selC, comp_K, tYes, Option.join_some, rIxTH, rIxLH, rLenH, rIsiF, at0, at1, at2, at3, at4, at5, at6, at7, at8, HO.tup.injEq, HO.lst.injEq, reduceCtorEq, false_or, or_false, tyF_non, tyF_bl, tyF_int, tyF_str, exists_const, Int.reduceAdd, Int.reduceMul, Int.reduceSub, gSub, rSetL, tSl, tPart, tNoPart, rSlH, upd_same, upd_upd, rIntB, rListH, tBM, tBM0, rAppend, rClear, tPar, gTupH, hp]
  refine tFor_mk ?_
  simp only [iList, tSeq, tNext, tRet, tRetN, tIfS, tAsg, gName, tDrop, tVar, tC, tOp, tUn, rI, rI0, rU, rEq, rNe, tTest, tB, tNot, tAnd, tOr, tAndV, tOrV, tNotV, tIf, tCB, tCall, tNil, tCons, tTup, tLst, gTup, gCons, gNil, L2.start, rIsi, rIxT, rIxL, cx_K, tyN_non, tyN_bl, tyN_int, tyN_str, isi_ii, isi_ib, isi_it, isi_il, isi_bi, isi_bb, isi_tt, isi_ni, isi_si, isi_ti, isi_li, isi_di, isi_ll, scal_ii, scal_bb, sz0, sz1, sz2, sz3, sz4, List.map_cons, List.map_nil, List.length_cons, List.length_nil, List.replicate, List.cons_append, List.nil_append, List.append_nil, List.getElem?_cons_zero, List.getElem?_cons_succ, List.set_cons_zero, List.set_cons_succ, Option.some.injEq, V.int.injEq, V.bl.injEq, V.ref.injEq, V.ty.injEq, List.cons.injEq, and_true, true_and, exists_eq_left, exists_eq_left', exists_and_left, exists_and_right, exists_eq, exists_eq', and_assoc, Nat.reduceAdd, Nat.reduceSub, Bool.not_true, Bool.not_false, Bool.false_eq_true, if_true, if_false, reduceIte, Nat.zero_add, decide_true, decide_false, selC, comp_K, tYes, Option.join_some, rIxTH, rIxLH, rLenH, rIsiF, at0, at1, at2, at3, at4, at5, at6, at7, at8, HO.tup.injEq, HO.lst.injEq, reduceCtorEq, false_or, or_false, tyF_non, tyF_bl, tyF_int, tyF_str, exists_const, Int.reduceAdd, Int.reduceMul, Int.reduceSub, gSub, rSetL, tSl, tPart, tNoPart, rSlH, upd_same, upd_upd, rIntB, rListH, tBM, tBM0, rAppend, rClear, tPar, gTupH]
  intro l hl
  have gl := same_new hl (HO.lst [V.int 2, V.int 2, V.int 3, V.int 3])
  refine ⟨⟨_, .of upd_same⟩, ?_⟩
  refine for_list (K := K) (a := l) (xs := [V.int 2, V.int 2, V.int 3, V.int 3]) (fun i σ H' => H' = upd H l (HO.lst [V.int 2, V.int 2, V.int 3, V.int 3]) ∧ ∃ o, σ = [some (.ref p), some (.int (loI r i).x), some (.int (loI r i).y), some (.int (loI r i).w), o]) ⟨rfl, none, rfl⟩ (fun i σ H' _ iv => .of (by rw [iv.1]; exact upd_same)) ?_ ?_
  · rintro i v σ H2 hi ⟨rfl, o, rfl⟩
    obtain ⟨d, rfl, hd, d23⟩ := d23 hi
    have d0 : d ≠ 0 := by omega
    have ld : d.natAbs < 2 ^ 4 := by have e : (2 : Nat) ^ 4 = 16 := rfl; omega
    rw [loI_succ hd]
    simp only [tSeq, tNext, tRet, tRetN, tIfS, tAsg, gName, tDrop, tVar, tC, tOp, tUn, rI, rI0, rU, rEq, rNe, tTest, tB, tNot, tAnd, tOr, tAndV, tOrV, tNotV, tIf, tCB, tCall, tNil, tCons, tTup, tLst, gTup, gCons, gNil, L2.start, rIsi, rIxT, rIxL, cx_K, tyN_non, tyN_bl, tyN_int, tyN_str, isi_ii, isi_ib, isi_it, isi_il, isi_bi, isi_bb, isi_tt, isi_ni, isi_si, isi_ti, isi_li, isi_di, isi_ll, scal_ii, scal_bb, sz0, sz1, sz2, sz3, sz4, List.map_cons, List.map_nil, List.length_cons, List.length_nil, List.replicate, List.cons_append, List.nil_append, List.append_nil, List.getElem?_cons_zero, List.getElem?_cons_succ, List.set_cons_zero, List.set_cons_succ, Option.some.injEq, V.int.injEq, V.bl.injEq, V.ref.injEq, V.ty.injEq, List.cons.injEq, and_true, true_and, exists_eq_left, exists_eq_left', exists_and_left, exists_and_right, exists_eq, exists_eq', and_assoc, Nat.reduceAdd, Nat.reduceSub, Bool.not_true, Bool.not_false, Bool.false_eq_true, if_true, if_false, reduceIte, Nat.zero_add, decide_true, decide_false, selC, comp_K, tYes, Option.join_some, rIxTH, rIxLH, rLenH, rIsiF, at0, at1, at2, at3, at4, at5, at6, at7, at8, HO.tup.injEq, HO.lst.injEq, reduceCtorEq, false_or, or_false, tyF_non, tyF_bl, tyF_int, tyF_str, exists_const, Int.reduceAdd, Int.reduceMul, Int.reduceSub, gSub, rSetL, tSl, tPart, tNoPart, rSlH, upd_same, upd_upd, rIntB, rListH, tBM, tBM0, rAppend, rClear, tPar, gTupH, (fm_of d23).1, (fm_of d23).2]
    generalize loI r i = s at *
    unfold loS
    refine ⟨d0, ite2 (fun c1 => ⟨d0, ite2 (fun c2 => ⟨d0, ite2 (fun c3 => ?_) (fun c3 => ?_)⟩) (fun c2 => ?_)⟩) (fun c1 => ?_)⟩
    · rw [if_pos ⟨of_decide_eq_true c1, of_decide_eq_true c2, of_decide_eq_true c3⟩]
      exact ⟨cdivb d0 ld, cdivb d0 ld, cdivb d0 ld, rfl, rfl, rfl⟩
    · rw [if_neg fun z => c3 (decide_eq_true z.2.2)]
      trivial
    · rw [if_neg fun z => c2 (decide_eq_true z.2.1)]
      trivial
    · rw [if_neg fun z => c1 (decide_eq_true z.1)]
      trivial
  · rintro σ H2 ⟨rfl, o, rfl⟩
    simp only [tSeq, tNext, tRet, tRetN, tIfS, tAsg, gName, tDrop, tVar, tC, tOp, tUn, rI, rI0, rU, rEq, rNe, tTest, tB, tNot, tAnd, tOr, tAndV, tOrV, tNotV, tIf, tCB, tCall, tNil, tCons, tTup, tLst, gTup, gCons, gNil, L2.start, rIsi, rIxT, rIxL, cx_K, tyN_non, tyN_bl, tyN_int, tyN_str, isi_ii, isi_ib, isi_it, isi_il, isi_bi, isi_bb, isi_tt, isi_ni, isi_si, isi_ti, isi_li, isi_di, isi_ll, scal_ii, scal_bb, sz0, sz1, sz2, sz3, sz4, List.map_cons, List.map_nil, List.length_cons, List.length_nil, List.replicate, List.cons_append, List.nil_append, List.append_nil, List.getElem?_cons_zero, List.getElem?_cons_succ, List.set_cons_zero, List.set_cons_succ, Option.some.injEq, V.int.injEq, V.bl.injEq, V.ref.injEq, V.ty.injEq, List.cons.injEq, and_true, true_and, exists_eq_left, exists_eq_left', exists_and_left, exists_and_right, exists_eq, exists_eq', and_assoc, Nat.reduceAdd, Nat.reduceSub, Bool.not_true, Bool.not_false, Bool.false_eq_true, if_true, if_false, reduceIte, Nat.zero_add, decide_true, decide_false, selC, comp_K, tYes, Option.join_some, rIxTH, rIxLH, rLenH, rIsiF, at0, at1, at2, at3, at4, at5, at6, at7, at8, HO.tup.injEq, HO.lst.injEq, reduceCtorEq, false_or, or_false, tyF_non, tyF_bl, tyF_int, tyF_str, exists_const, Int.reduceAdd, Int.reduceMul, Int.reduceSub, gSub, rSetL, tSl, tPart, tNoPart, rSlH, upd_same, upd_upd, rIntB, rListH, tBM, tBM0, rAppend, rClear, tPar, gTupH]
    intro q hq
    exact k q _ (gl.trans (same_new hq _)) upd_same
theorem ok_law_area (T : Txt K mg ad fd) : FnOk P w K mg base CX0 1 (ad 31) (fd 31) ["_law_held_here", "_law_map_of"] sp_larea := by
  refine T.law_area.fn.ok sc_law_area (fun vs H Q E h => ?_) (fun cdv A outer s H vs Q E hr h => ?_)
  · obtain ⟨l, p, bs, M, rfl, _⟩ := h
    rfl
  obtain ⟨l, p, bs, M, rfl, hb, ⟨hp, hM⟩, k⟩ := h
  have qpss4 := @pss4
  have qps_set := @ps_set
  have qpe_op := @pe_op
  have qpe_callB := @pe_callB
  have qpa1 := @pa1
  have qpe_comp := @pe_comp
  unfold L2.CompBody at qpe_comp
  have qpi_list := @pi_list
  have qpv := @pv
  have qpg_name := @pg_name
  have qpif_one := @pif_one
  have qpt_val := @pt_val
  have qpe_ix := @pe_ix
  have qpe_int := @pe_int
  have qps_for := @ps_for
  have qpe_lst := @pe_lst
  have qpa4 := @pa4
  have qpss_one := @pss_one
  have qps_if := @ps_if
  have qPWpt := @PW.pt
  have qpw_and := @pw_and
  have qpt_cmpR := @pt_cmpR
  have qpw_and1 := @pw_and1
  have qpss2 := @pss2
  have qpss_nil := @pss_nil
  have qps_ret := @ps_ret
  have qpe_tup := @pe_tup
  have qpa2 := @pa2
  generalize @L2.PE = QE, @L2.PT = QT, @L2.PW = QW, @L2.PA = QA, @L2.PS = QS, @L2.PSs = QSs, @L2.PG = QG, @L2.PGs = QGs, @L2.PI = QI, @L2.PO = QO, @L2.PIf = QIf at qpss4 qps_set qpe_op qpe_callB qpa1 qpe_comp qpi_list qpv qpg_name qpif_one qpt_val qpe_ix qpe_int qps_for qpe_lst qpa4 qpss_one qps_if qPWpt qpw_and qpt_cmpR qpw_and1 qpss2 qpss_nil qps_ret qpe_tup qpa2 ⊢
  refine ⟨_,
    (qpss4
      (qps_set (i := 2) sc_law_area.nd rfl (Or.inl rfl) (qpe_op op_mulB (qpe_callB call_lenH rfl T.b_len bt_len (qpa1 (qpe_comp (dsc := defScope s_law_area) (N := ["_law_held_here", "_law_map_of", "_law_top", "_law_bottom", "_law_d"]) (own := ["_law_one"]) (ix := []) rfl rfl rfl ⟨rfl, by decide +kernel, by decide +kernel, by decide +kernel, by decide +kernel⟩ (qpi_list (qpv 0)) (fun cl C fp s2 H2 xe => ⟨(qpg_name (i := 0) (show List.Nodup (["_law_one"] : List Str) from by decide +kernel) rfl (Or.inl rfl)), (qpif_one (qpt_val (qpv 0))), (qpv 0)⟩)) ns_ListComp)) (qpe_op op_sub (qpe_op op_mulB (qpe_ix ix_tupH (qpv 1) qpe_int (fun _ _ => rfl)) (qpe_ix ix_tupH (qpv 1) qpe_int (fun _ _ => rfl))) (qpe_op op_mulB (qpe_ix ix_tupH (qpv 1) qpe_int (fun _ _ => rfl)) (qpe_ix ix_tupH (qpv 1) qpe_int (fun _ _ => rfl))))))
      (qps_set (i := 3) sc_law_area.nd rfl (Or.inl rfl) (qpe_op op_mulB (qpe_ix ix_tupH (qpv 1) qpe_int (fun _ _ => rfl)) (qpe_ix ix_tupH (qpv 1) qpe_int (fun _ _ => rfl))))
      (qps_for PassesOwn.never rfl (qpi_list (qpe_lst (qpa4 qpe_int ns_Constant qpe_int ns_Constant qpe_int ns_Constant qpe_int ns_Constant))) (qpg_name (i := 4) sc_law_area.nd rfl (Or.inl rfl)) (qpss_one (qps_if (qPWpt (qpw_and (qpt_cmpR op_eq (qpe_op op_modN (qpv 2) (qpv 4)) qpe_int (nomark _)) (qpw_and1 (qpt_cmpR op_eq (qpe_op op_modN (qpv 3) (qpv 4)) qpe_int (nomark _))))) (qpss2
      (qps_set (i := 2) sc_law_area.nd rfl (Or.inl rfl) (qpe_op op_fdivB (qpv 2) (qpv 4)))
      (qps_set (i := 3) sc_law_area.nd rfl (Or.inl rfl) (qpe_op op_fdivB (qpv 3) (qpv 4)))) qpss_nil)))
      (qps_ret (qpe_tup (qpa2 (qpv 2) ns_Name (qpv 3) ns_Name))))
    , ?_⟩
  clear  qpss4 qps_set qpe_op qpe_callB qpa1 qpe_comp qpi_list qpv qpg_name qpif_one qpt_val qpe_ix qpe_int qps_for qpe_lst qpa4 qpss_one qps_if qPWpt qpw_and qpt_cmpR qpw_and1 qpss2 qpss_nil qps_ret qpe_tup qpa2 QE QT QW QA QS QSs QG QGs QI QO QIf
  obtain ⟨qa, qb, qc, qd⟩ := quad_le hM.q
  have sm : ∀ {z : Int}, z.natAbs ≤ 20 → z.natAbs < 2 ^ 70 := fun h => Nat.lt_of_le_of_lt h (by decide)
  have s5 : ∀ {z : Int}, z.natAbs ≤ 5 → z.natAbs < 2 ^ 70 := fun h => sm (by omega)
  have mm : M.m.natAbs < 2 ^ 70 := sm (by have := hM.m; omega)
  have hl := hb.1
  simp only [tSeq, tNext, tRet, tRetN, tIfS, tAsg, gName, tDrop, tVar, tC, tOp, tUn, rI, rI0, rU, rEq, rNe, tTest, tB, tNot, tAnd, tOr, tAndV, tOrV, tNotV, tIf, tCB, tCall, tNil, tCons, tTup, tLst, gTup, gCons, gNil, L2.start, rIsi, rIxT, rIxL, cx_K, tyN_non, tyN_bl, tyN_int, tyN_str, isi_ii, isi_ib, isi_it, isi_il, isi_bi, isi_bb, isi_tt, isi_ni, isi_si, isi_ti, isi_li, isi_di, isi_ll, scal_ii, scal_bb, sz0, sz1, sz2, sz3, sz4, List.map_cons, List.map_nil, List.length_cons, List.length_nil, List.replicate, List.cons_append, List.nil_append, List.append_nil, List.getElem?_cons_zero, List.getElem?_cons_succ, List.set_cons_zero, List.set_cons_succ, Option.some.injEq, V.int.injEq, V.bl.injEq, V.ref.injEq, V.ty.injEq, List.cons.injEq, and_true, true_and, exists_eq_left, exists_eq_left', exists_and_left, exists_and_right, exists_eq, exists_eq', and_assoc, Nat.reduceAdd, Nat.reduceSub, Bool.not_true, Bool.not_false, Bool.false_eq_true, if_true, if_false, reduceIte, Nat.zero_add, decide_true, decide_false, selC, comp_K, tYes, Option.join_some, rIxTH, rIxLH, rLenH, rIsiF, at0, at1, at2, at3, at4, at5, at6, at7, at8, HO.tup.injEq, HO.lst.injEq, reduceCtorEq, false_or, or_false, tyF_non, tyF_bl, tyF_int, tyF_str, exists_const, Int.reduceAdd, Int.reduceMul, Int.reduceSub, gSub, rSetL, tSl, tPart, tNoPart, rSlH, upd_same, upd_upd, rIntB, rListH, tBM, tBM0, rAppend, rClear, tPar, gTupH]
  refine tComp_mk ?_
  simp only [iList, tSeq, tNext, tRet, tRetN, tIfS, tAsg, gName, tDrop, tVar, tC, tOp, tUn, rI, rI0, rU, rEq, rNe, tTest, tB, tNot, tAnd, tOr, tAndV, tOrV, tNotV, tIf, tCB, tCall, tNil, tCons, tTup, tLst, gTup, gCons, gNil, L2.start, rIsi, rIxT, rIxL, cx_K, tyN_non, tyN_bl, tyN_int, tyN_str, isi_ii, isi_ib, isi_it, isi_il, isi_bi, isi_bb, isi_tt, isi_ni, isi_si, isi_ti, isi_li, isi_di, isi_ll, scal_ii, scal_bb, sz0, sz1, sz2, sz3, sz4, List.map_cons, List.map_nil, List.length_cons, List.length_nil, List.replicate, List.cons_append, List.nil_append, List.append_nil, List.getElem?_cons_zero, List.getElem?_cons_succ, List.set_cons_zero, List.set_cons_succ, Option.some.injEq, V.int.injEq, V.bl.injEq, V.ref.injEq, V.ty.injEq, List.cons.injEq, and_true, true_and, exists_eq_left, exists_eq_left', exists_and_left, exists_and_right, exists_eq, exists_eq', and_assoc, Nat.reduceAdd, Nat.reduceSub, Bool.not_true, Bool.not_false, Bool.false_eq_true, if_true, if_false, reduceIte, Nat.zero_add, decide_true, decide_false, selC, comp_K, tYes, Option.join_some, rIxTH, rIxLH, rLenH, rIsiF, at0, at1, at2, at3, at4, at5, at6, at7, at8, HO.tup.injEq, HO.lst.injEq, reduceCtorEq, false_or, or_false, tyF_non, tyF_bl, tyF_int, tyF_str, exists_const, Int.reduceAdd, Int.reduceMul, Int.reduceSub, gSub, rSetL, tSl, tPart, tNoPart, rSlH, upd_same, upd_upd, rIntB, rListH, tBM, tBM0, rAppend, rClear, tPar, gTupH]
  refine ⟨⟨_, .of hl⟩, fun A hA => comp_list (xs := bs.map V.bl) (fun i ws H' => Same H H' ∧ H' A = some (.lst ws) ∧ ws.length = ((bs.take i).filter id).length ∧ ws.length ≤ i) ⟨same_new hA _, upd_same, rfl, Nat.le_refl _⟩ (fun i zs H' p => .of (p.1 _ _ hl)) ?_ ?_⟩
  · rintro i ws H2 v hi hv ⟨g2, hA2, hn, hle⟩
    rw [List.length_map] at hi
    have hb2 := hb.2
    have eb : bs[i]? = some bs[i] := List.getElem?_eq_getElem hi
    rw [List.getElem?_map, eb] at hv
    cases hv
    simp only [tSeq, tNext, tRet, tRetN, tIfS, tAsg, gName, tDrop, tVar, tC, tOp, tUn, rI, rI0, rU, rEq, rNe, tTest, tB, tNot, tAnd, tOr, tAndV, tOrV, tNotV, tIf, tCB, tCall, tNil, tCons, tTup, tLst, gTup, gCons, gNil, L2.start, rIsi, rIxT, rIxL, cx_K, tyN_non, tyN_bl, tyN_int, tyN_str, isi_ii, isi_ib, isi_it, isi_il, isi_bi, isi_bb, isi_tt, isi_ni, isi_si, isi_ti, isi_li, isi_di, isi_ll, scal_ii, scal_bb, sz0, sz1, sz2, sz3, sz4, List.map_cons, List.map_nil, List.length_cons, List.length_nil, List.replicate, List.cons_append, List.nil_append, List.append_nil, List.getElem?_cons_zero, List.getElem?_cons_succ, List.set_cons_zero, List.set_cons_succ, Option.some.injEq, V.int.injEq, V.bl.injEq, V.ref.injEq, V.ty.injEq, List.cons.injEq, and_true, true_and, exists_eq_left, exists_eq_left', exists_and_left, exists_and_right, exists_eq, exists_eq', and_assoc, Nat.reduceAdd, Nat.reduceSub, Bool.not_true, Bool.not_false, Bool.false_eq_true, if_true, if_false, reduceIte, Nat.zero_add, decide_true, decide_false, selC, comp_K, tYes, Option.join_some, rIxTH, rIxLH, rLenH, rIsiF, at0, at1, at2, at3, at4, at5, at6, at7, at8, HO.tup.injEq, HO.lst.injEq, reduceCtorEq, false_or, or_false, tyF_non, tyF_bl, tyF_int, tyF_str, exists_const, Int.reduceAdd, Int.reduceMul, Int.reduceSub, gSub, rSetL, tSl, tPart, tNoPart, rSlH, upd_same, upd_upd, rIntB, rListH, tBM, tBM0, rAppend, rClear, tPar, gTupH]
    have tk : ((bs.take (i + 1)).filter id).length = ((bs.take i).filter id).length + if bs[i] = true then 1 else 0 := by
      rw [List.take_add_one, eb, List.filter_append, List.length_append]
      cases e : bs[i] <;> simp
    refine ite2 (fun c => ?_) (fun c => ?_)
    · refine cw_put (by rw [List.length_map]; exact hi) hA2 (Nat.lt_of_le_of_lt (show ws.length ≤ 16 by omega) (by decide)) ⟨same_put g2 hA, upd_same, ?_, ?_⟩
      · rw [List.length_append, tk, if_pos c, hn]
        rfl
      · rw [List.length_append]
        exact Nat.succ_le_succ hle
    · refine cw_skip (by rw [List.length_map]; exact hi) ⟨g2, hA2, ?_, Nat.le_succ_of_le hle⟩
      rw [tk, if_neg c, hn]
      rfl
  · rintro ws H2 ⟨g2, hA2, hn, hle⟩
    rw [List.take_of_length_le (by rw [List.length_map]; exact Nat.le_refl _)] at hn
    have hp2 := g2 _ _ hp
    simp only [tSeq, tNext, tRet, tRetN, tIfS, tAsg, gName, tDrop, tVar, tC, tOp, tUn, rI, rI0, rU, rEq, rNe, tTest, tB, tNot, tAnd, tOr, tAndV, tOrV, tNotV, tIf, tCB, tCall, tNil, tCons, tTup, tLst, gTup, gCons, gNil, L2.start, rIsi, rIxT, rIxL, cx_K, tyN_non, tyN_bl, tyN_int, tyN_str, isi_ii, isi_ib, isi_it, isi_il, isi_bi, isi_bb, isi_tt, isi_ni, isi_si, isi_ti, isi_li, isi_di, isi_ll, scal_ii, scal_bb, sz0, sz1, sz2, sz3, sz4, List.map_cons, List.map_nil, List.length_cons, List.length_nil, List.replicate, List.cons_append, List.nil_append, List.append_nil, List.getElem?_cons_zero, List.getElem?_cons_succ, List.set_cons_zero, List.set_cons_succ, Option.some.injEq, V.int.injEq, V.bl.injEq, V.ref.injEq, V.ty.injEq, List.cons.injEq, and_true, true_and, exists_eq_left, exists_eq_left', exists_and_left, exists_and_right, exists_eq, exists_eq', and_assoc, Nat.reduceAdd, Nat.reduceSub, Bool.not_true, Bool.not_false, Bool.false_eq_true, if_true, if_false, reduceIte, Nat.zero_add, decide_true, decide_false, selC, comp_K, tYes, Option.join_some, rIxTH, rIxLH, rLenH, rIsiF, at0, at1, at2, at3, at4, at5, at6, at7, at8, HO.tup.injEq, HO.lst.injEq, reduceCtorEq, false_or, or_false, tyF_non, tyF_bl, tyF_int, tyF_str, exists_const, Int.reduceAdd, Int.reduceMul, Int.reduceSub, gSub, rSetL, tSl, tPart, tNoPart, rSlH, upd_same, upd_upd, rIntB, rListH, tBM, tBM0, rAppend, rClear, tPar, gTupH, hA2, hp2]
    have l16 : ((ws.length : Int)).natAbs < 2 ^ 70 := sm (by rw [List.length_map, hb.2] at hle; omega)
    have bd := sub_lt (mul_lt (s5 qa) (s5 qd)) (mul_lt (s5 qb) (s5 qc))
    refine ⟨cbig (s5 qa) (s5 qd), cbig (s5 qb) (s5 qc), cbig l16 bd, cbig mm mm, ?_⟩
    rw [hn]
    refine tFor_mk ?_
    simp only [iList, tSeq, tNext, tRet, tRetN, tIfS, tAsg, gName, tDrop, tVar, tC, tOp, tUn, rI, rI0, rU, rEq, rNe, tTest, tB, tNot, tAnd, tOr, tAndV, tOrV, tNotV, tIf, tCB, tCall, tNil, tCons, tTup, tLst, gTup, gCons, gNil, L2.start, rIsi, rIxT, rIxL, cx_K, tyN_non, tyN_bl, tyN_int, tyN_str, isi_ii, isi_ib, isi_it, isi_il, isi_bi, isi_bb, isi_tt, isi_ni, isi_si, isi_ti, isi_li, isi_di, isi_ll, scal_ii, scal_bb, sz0, sz1, sz2, sz3, sz4, List.map_cons, List.map_nil, List.length_cons, List.length_nil, List.replicate, List.cons_append, List.nil_append, List.append_nil, List.getElem?_cons_zero, List.getElem?_cons_succ, List.set_cons_zero, List.set_cons_succ, Option.some.injEq, V.int.injEq, V.bl.injEq, V.ref.injEq, V.ty.injEq, List.cons.injEq, and_true, true_and, exists_eq_left, exists_eq_left', exists_and_left, exists_and_right, exists_eq, exists_eq', and_assoc, Nat.reduceAdd, Nat.reduceSub, Bool.not_true, Bool.not_false, Bool.false_eq_true, if_true, if_false, reduceIte, Nat.zero_add, decide_true, decide_false, selC, comp_K, tYes, Option.join_some, rIxTH, rIxLH, rLenH, rIsiF, at0, at1, at2, at3, at4, at5, at6, at7, at8, HO.tup.injEq, HO.lst.injEq, reduceCtorEq, false_or, or_false, tyF_non, tyF_bl, tyF_int, tyF_str, exists_const, Int.reduceAdd, Int.reduceMul, Int.reduceSub, gSub, rSetL, tSl, tPart, tNoPart, rSlH, upd_same, upd_upd, rIntB, rListH, tBM, tBM0, rAppend, rClear, tPar, gTupH]
    intro L hL
    have gL := same_new hL (HO.lst [V.int 2, V.int 2, V.int 3, V.int 3])
    refine ⟨⟨_, .of upd_same⟩, ?_⟩
    refine for_list (K := K) (a := L) (xs := [V.int 2, V.int 2, V.int 3, V.int 3]) (fun i σ H' => H' = upd H2 L (HO.lst [V.int 2, V.int 2, V.int 3, V.int 3]) ∧ ∃ o, σ = [some (.ref l), some (.ref p), some (.int (arI ⟨((bs.filter id).length : Int) * (M.a * M.d - M.b * M.c), M.m * M.m⟩ i).t), some (.int (arI ⟨((bs.filter id).length : Int) * (M.a * M.d - M.b * M.c), M.m * M.m⟩ i).b), o]) ⟨rfl, none, rfl⟩ (fun i σ H' _ iv => .of (by rw [iv.1]; exact upd_same)) ?_ ?_
    · rintro i v σ H3 hi ⟨rfl, o, rfl⟩
      obtain ⟨d, rfl, hd, d23⟩ := d23 hi
      have d0 : d ≠ 0 := by omega
      have ld : d.natAbs < 2 ^ 4 := by have e : (2 : Nat) ^ 4 = 16 := rfl; omega
      rw [arI_succ hd]
      simp only [tSeq, tNext, tRet, tRetN, tIfS, tAsg, gName, tDrop, tVar, tC, tOp, tUn, rI, rI0, rU, rEq, rNe, tTest, tB, tNot, tAnd, tOr, tAndV, tOrV, tNotV, tIf, tCB, tCall, tNil, tCons, tTup, tLst, gTup, gCons, gNil, L2.start, rIsi, rIxT, rIxL, cx_K, tyN_non, tyN_bl, tyN_int, tyN_str, isi_ii, isi_ib, isi_it, isi_il, isi_bi, isi_bb, isi_tt, isi_ni, isi_si, isi_ti, isi_li, isi_di, isi_ll, scal_ii, scal_bb, sz0, sz1, sz2, sz3, sz4, List.map_cons, List.map_nil, List.length_cons, List.length_nil, List.replicate, List.cons_append, List.nil_append, List.append_nil, List.getElem?_cons_zero, List.getElem?_cons_succ, List.set_cons_zero, List.set_cons_succ, Option.some.injEq, V.int.injEq, V.bl.injEq, V.ref.injEq, V.ty.injEq, List.cons.injEq, and_true, true_and, exists_eq_left, exists_eq_left', exists_and_left, exists_and_right, exists_eq, exists_eq', and_assoc, Nat.reduceAdd, Nat.reduceSub, Bool.not_true, Bool.not_false, Bool.false_eq_true, if_true, if_false, reduceIte, Nat.zero_add, decide_true, decide_false, selC, comp_K, tYes, Option.join_some, rIxTH, rIxLH, rLenH, rIsiF, at0, at1, at2, at3, at4, at5, at6, at7, at8, HO.tup.injEq, HO.lst.injEq, reduceCtorEq, false_or, or_false, tyF_non, tyF_bl, tyF_int, tyF_str, exists_const, Int.reduceAdd, Int.reduceMul, Int.reduceSub, gSub, rSetL, tSl, tPart, tNoPart, rSlH, upd_same, upd_upd, rIntB, rListH, tBM, tBM0, rAppend, rClear, tPar, gTupH, (fm_of d23).1, (fm_of d23).2]
      generalize arI ⟨((bs.filter id).length : Int) * (M.a * M.d - M.b * M.c), M.m * M.m⟩ i = s at *
      unfold arS
      refine ⟨d0, ite2 (fun c1 => ⟨d0, ite2 (fun c2 => ?_) (fun c2 => ?_)⟩) (fun c1 => ?_)⟩
      · rw [if_pos ⟨of_decide_eq_true c1, of_decide_eq_true c2⟩]
        exact ⟨cdivb d0 ld, cdivb d0 ld, rfl, rfl⟩
      · rw [if_neg fun z => c2 (decide_eq_true z.2)]
        trivial
      · rw [if_neg fun z => c1 (decide_eq_true z.1)]
        trivial
    · rintro σ H3 ⟨rfl, o, rfl⟩
      simp only [tSeq, tNext, tRet, tRetN, tIfS, tAsg, gName, tDrop, tVar, tC, tOp, tUn, rI, rI0, rU, rEq, rNe, tTest, tB, tNot, tAnd, tOr, tAndV, tOrV, tNotV, tIf, tCB, tCall, tNil, tCons, tTup, tLst, gTup, gCons, gNil, L2.start, rIsi, rIxT, rIxL, cx_K, tyN_non, tyN_bl, tyN_int, tyN_str, isi_ii, isi_ib, isi_it, isi_il, isi_bi, isi_bb, isi_tt, isi_ni, isi_si, isi_ti, isi_li, isi_di, isi_ll, scal_ii, scal_bb, sz0, sz1, sz2, sz3, sz4, List.map_cons, List.map_nil, List.length_cons, List.length_nil, List.replicate, List.cons_append, List.nil_append, List.append_nil, List.getElem?_cons_zero, List.getElem?_cons_succ, List.set_cons_zero, List.set_cons_succ, Option.some.injEq, V.int.injEq, V.bl.injEq, V.ref.injEq, V.ty.injEq, List.cons.injEq, and_true, true_and, exists_eq_left, exists_eq_left', exists_and_left, exists_and_right, exists_eq, exists_eq', and_assoc, Nat.reduceAdd, Nat.reduceSub, Bool.not_true, Bool.not_false, Bool.false_eq_true, if_true, if_false, reduceIte, Nat.zero_add, decide_true, decide_false, selC, comp_K, tYes, Option.join_some, rIxTH, rIxLH, rLenH, rIsiF, at0, at1, at2, at3, at4, at5, at6, at7, at8, HO.tup.injEq, HO.lst.injEq, reduceCtorEq, false_or, or_false, tyF_non, tyF_bl, tyF_int, tyF_str, exists_const, Int.reduceAdd, Int.reduceMul, Int.reduceSub, gSub, rSetL, tSl, tPart, tNoPart, rSlH, upd_same, upd_upd, rIntB, rListH, tBM, tBM0, rAppend, rClear, tPar, gTupH]
      intro q hq
      exact k q _ (g2.trans (gL.trans (same_new hq _))) upd_same
theorem ok_stretches_of (T : Txt K mg ad fd) : FnOk P w K mg base CX0 3 (ad 12) (fd 12) ["fences"] sp_strs := by
  refine T.stretches_of.fn.ok sc_stretches_of (fun vs H Q E h => ?_) (fun cdv A outer s H vs Q E hr h => ?_)
  · obtain ⟨l, ys, ds, rfl, _⟩ := h
    rfl
  obtain ⟨l, ys, ds, rfl, hl, hz, hs, ap, k⟩ := h
  have qpss_one := @pss_one
  have qps_ret := @ps_ret
  have qpe_comp := @pe_comp
  unfold L2.CompBody at qpe_comp
  have qpi_list := @pi_list
  have qpv := @pv
  have qpg_tupH := @pg_tupH
  have qpgs_cons := @pgs_cons
  have qpg_name := @pg_name
  have qpgs_nil := @pgs_nil
  have qpif_nil := @pif_nil
  have qpe_call := @pe_call
  have qpa2 := @pa2
  generalize @L2.PE = QE, @L2.PT = QT, @L2.PW = QW, @L2.PA = QA, @L2.PS = QS, @L2.PSs = QSs, @L2.PG = QG, @L2.PGs = QGs, @L2.PI = QI, @L2.PO = QO, @L2.PIf = QIf at qpss_one qps_ret qpe_comp qpi_list qpv qpg_tupH qpgs_cons qpg_name qpgs_nil qpif_nil qpe_call qpa2 ⊢
  refine ⟨_,
    (qpss_one (qps_ret (qpe_comp (dsc := defScope s_stretches_of) (N := ["fences"]) (own := ["P", "Q"]) (ix := []) rfl rfl rfl ⟨rfl, by decide +kernel, by decide +kernel, by decide +kernel, by decide +kernel⟩ (qpi_list (qpv 0)) (fun cl C fp s2 H2 xe => ⟨(qpg_tupH (n := 2) rfl (qpgs_cons (qpg_name (i := 0) (show List.Nodup (["P", "Q"] : List Str) from by decide +kernel) rfl (Or.inl rfl) (Or.inr rfl)) (qpgs_cons (qpg_name (i := 1) (show List.Nodup (["P", "Q"] : List Str) from by decide +kernel) rfl (Or.inl rfl) (Or.inr rfl)) qpgs_nil))), qpif_nil, (qpe_call (ok_stretch T) (hr.mono (by decide)) rfl T.stretch.mg T.stretch.fn.kp T.stretch.bn .nil pass0 (qpa2 (qpv 0) ns_Name (qpv 1) ns_Name))⟩))))
    , ?_⟩
  clear  qpss_one qps_ret qpe_comp qpi_list qpv qpg_tupH qpgs_cons qpg_name qpgs_nil qpif_nil qpe_call qpa2 QE QT QW QA QS QSs QG QGs QI QO QIf
  simp only [tSeq, tAsg, L2.start, cx_K, List.map_cons, List.map_nil, List.length_cons, List.length_nil, List.replicate, List.cons_append, List.nil_append, Nat.reduceAdd, Nat.reduceSub, Nat.zero_add, tRet]
  refine tComp_mk ?_
  refine ⟨_, rfl, l, rfl, ⟨_, .of hl⟩, fun D hD => ?_⟩
  refine comp_list (xs := ys) (iv_lr StV (ds.map srt) H D) (iv_lr_nil hD) (fun i zs H' p => .of (p.1 _ _ hl)) ?_ ?_
  · rintro i zs H2 v hi hv iv
    obtain ⟨p, d, rfl, hd, hp⟩ := hs.2 i v hv
    obtain ⟨a, b, hp, ha, hb⟩ := hp.ts (ts_same iv.1)
    simp only [tSeq, tNext, tRet, tRetN, tIfS, tAsg, gName, tDrop, tVar, tC, tOp, tUn, rI, rI0, rU, rEq, rNe, tTest, tB, tNot, tAnd, tOr, tAndV, tOrV, tNotV, tIf, tCB, tCall, tNil, tCons, tTup, tLst, gTup, gCons, gNil, L2.start, rIsi, rIxT, rIxL, cx_K, tyN_non, tyN_bl, tyN_int, tyN_str, isi_ii, isi_ib, isi_it, isi_il, isi_bi, isi_bb, isi_tt, isi_ni, isi_si, isi_ti, isi_li, isi_di, isi_ll, scal_ii, scal_bb, sz0, sz1, sz2, sz3, sz4, List.map_cons, List.map_nil, List.length_cons, List.length_nil, List.replicate, List.cons_append, List.nil_append, List.append_nil, List.getElem?_cons_zero, List.getElem?_cons_succ, List.set_cons_zero, List.set_cons_succ, Option.some.injEq, V.int.injEq, V.bl.injEq, V.ref.injEq, V.ty.injEq, List.cons.injEq, and_true, true_and, exists_eq_left, exists_eq_left', exists_and_left, exists_and_right, exists_eq, exists_eq', and_assoc, Nat.reduceAdd, Nat.reduceSub, Bool.not_true, Bool.not_false, Bool.false_eq_true, if_true, if_false, reduceIte, Nat.zero_add, decide_true, decide_false, selC, comp_K, tYes, Option.join_some, rIxTH, rIxLH, rLenH, rIsiF, at0, at1, at2, at3, at4, at5, at6, at7, at8, HO.tup.injEq, HO.lst.injEq, reduceCtorEq, false_or, or_false, tyF_non, tyF_bl, tyF_int, tyF_str, exists_const, Int.reduceAdd, Int.reduceMul, Int.reduceSub, gSub, rSetL, tSl, tPart, tNoPart, rSlH, upd_same, upd_upd, rIntB, rListH, tBM, tBM0, rAppend, rClear, tPar, gTupH, hp]
    refine ⟨a, b, ⟨d.x1, d.y1, d.w1⟩, ⟨d.x2, d.y2, d.w2⟩, rfl, ha, hb, ap i d hd, fun r H3 g3 hr => ?_⟩
    exact iv_lr_put stv_ts hD (by omega) iv hi (by rw [List.getElem?_map, hd]; rfl) g3 hr
  · rintro zs H2 ⟨g2, hD2, hn, hw⟩
    rw [List.take_of_length_le (by rw [List.length_map, hs.1]; exact Nat.le_refl _)] at hw
    exact k D zs H2 g2 hD2 (by omega) hw
theorem ok_whereX (T : Txt K mg ad fd) : FnOk P w K mg base CX0 5 (ad 16) (fd 16) ["land", "P"] sp_where := by
  refine T.whereX.fn.ok sc_whereX (fun vs H Q E h => ?_) (fun cdv A outer s H vs Q E hr h => ?_)
  · obtain ⟨l, q, ys, ds, r, rfl, _⟩ := h
    rfl
  obtain ⟨l, q, ys, ds, r, rfl, hl, hz, hs, ap, hq, k⟩ := h
  have qpss4 := @pss4
  have qps_set := @ps_set
  have qpe_call := @pe_call
  have qpa1 := @pa1
  have qpv := @pv
  have qps_if := @ps_if
  have qpt_val := @pt_val
  have qpe_callB := @pe_callB
  have qpe_comp := @pe_comp
  unfold L2.CompBody at qpe_comp
  have qpi_list := @pi_list
  have qpg_name := @pg_name
  have qpif_nil := @pif_nil
  have qpa2 := @pa2
  have qpss_one := @pss_one
  have qps_ret := @ps_ret
  have qpe_int := @pe_int
  have qpss_nil := @pss_nil
  have qpt_cmpR := @pt_cmpR
  have qpe_op := @pe_op
  have qpe_un := @pe_un
  generalize @L2.PE = QE, @L2.PT = QT, @L2.PW = QW, @L2.PA = QA, @L2.PS = QS, @L2.PSs = QSs, @L2.PG = QG, @L2.PGs = QGs, @L2.PI = QI, @L2.PO = QO, @L2.PIf = QIf at qpss4 qps_set qpe_call qpa1 qpv qps_if qpt_val qpe_callB qpe_comp qpi_list qpg_name qpif_nil qpa2 qpss_one qps_ret qpe_int qpss_nil qpt_cmpR qpe_op qpe_un ⊢
  refine ⟨_,
    (qpss4
      (qps_set (i := 2) sc_whereX.nd rfl (Or.inl rfl) (qpe_call (ok_stretches_of T) (hr.mono (by decide)) rfl T.stretches_of.mg T.stretches_of.fn.kp T.stretches_of.bn .nil pass0 (qpa1 (qpv 0) ns_Name)))
      (qps_if (qpt_val (qpe_callB (call_any rfl) rfl T.b_any bt_any (qpa1 (qpe_comp (dsc := defScope s_whereX) (N := ["land", "P", "sides"]) (own := ["S"]) (ix := [1]) rfl rfl rfl ⟨rfl, by decide +kernel, by decide +kernel, by decide +kernel, by decide +kernel⟩ (qpi_list (qpv 2)) (fun cl C fp s2 H2 xe => ⟨(qpg_name (i := 0) (show List.Nodup (["S", "P"] : List Str) from by decide +kernel) rfl (Or.inl rfl)), qpif_nil, (qpe_call (ok_lies_on T) (hr.mono (by decide)) rfl T.lies_on.mg T.lies_on.fn.kp T.lies_on.bn .nil pass0 (qpa2 (qpv 1) ns_Name (qpv 0) ns_Name))⟩)) ns_ListComp))) (qpss_one (qps_ret qpe_int)) qpss_nil)
      (qps_if (qpt_cmpR op_eq (qpe_op op_mod (qpe_call (ok_above T) (hr.mono (by decide)) rfl T.above.mg T.above.fn.kp T.above.bn .nil pass0 (qpa2 (qpv 2) ns_Name (qpv 1) ns_Name)) qpe_int) qpe_int (nomark _)) (qpss_one (qps_ret qpe_int)) qpss_nil)
      (qps_ret (qpe_un un_neg qpe_int)))
    , ?_⟩
  clear  qpss4 qps_set qpe_call qpa1 qpv qps_if qpt_val qpe_callB qpe_comp qpi_list qpg_name qpif_nil qpa2 qpss_one qps_ret qpe_int qpss_nil qpt_cmpR qpe_op qpe_un QE QT QW QA QS QSs QG QGs QI QO QIf
  simp only [tSeq, tNext, tRet, tRetN, tIfS, tAsg, gName, tDrop, tVar, tC, tOp, tUn, rI, rI0, rU, rEq, rNe, tTest, tB, tNot, tAnd, tOr, tAndV, tOrV, tNotV, tIf, tCB, tCall, tNil, tCons, tTup, tLst, gTup, gCons, gNil, L2.start, rIsi, rIxT, rIxL, cx_K, tyN_non, tyN_bl, tyN_int, tyN_str, isi_ii, isi_ib, isi_it, isi_il, isi_bi, isi_bb, isi_tt, isi_ni, isi_si, isi_ti, isi_li, isi_di, isi_ll, scal_ii, scal_bb, sz0, sz1, sz2, sz3, sz4, List.map_cons, List.map_nil, List.length_cons, List.length_nil, List.replicate, List.cons_append, List.nil_append, List.append_nil, List.getElem?_cons_zero, List.getElem?_cons_succ, List.set_cons_zero, List.set_cons_succ, Option.some.injEq, V.int.injEq, V.bl.injEq, V.ref.injEq, V.ty.injEq, List.cons.injEq, and_true, true_and, exists_eq_left, exists_eq_left', exists_and_left, exists_and_right, exists_eq, exists_eq', and_assoc, Nat.reduceAdd, Nat.reduceSub, Bool.not_true, Bool.not_false, Bool.false_eq_true, if_true, if_false, reduceIte, Nat.zero_add, decide_true, decide_false, selC, comp_K, tYes, Option.join_some, rIxTH, rIxLH, rLenH, rIsiF, at0, at1, at2, at3, at4, at5, at6, at7, at8, HO.tup.injEq, HO.lst.injEq, reduceCtorEq, false_or, or_false, tyF_non, tyF_bl, tyF_int, tyF_str, exists_const, Int.reduceAdd, Int.reduceMul, Int.reduceSub, gSub, rSetL, tSl, tPart, tNoPart, rSlH, upd_same, upd_upd, rIntB, rListH, tBM, tBM0, rAppend, rClear, tPar, gTupH]
  refine ⟨l, ys, ds, rfl, hl, hz, hs, ap, fun D zs H1 g1 hD1 hn1 hs1 => ?_⟩
  have hq1 := hq.same g1
  have hlen : zs.length = (ds.map srt).length := hs1.1
  simp only [tSeq, tNext, tRet, tRetN, tIfS, tAsg, gName, tDrop, tVar, tC, tOp, tUn, rI, rI0, rU, rEq, rNe, tTest, tB, tNot, tAnd, tOr, tAndV, tOrV, tNotV, tIf, tCB, tCall, tNil, tCons, tTup, tLst, gTup, gCons, gNil, L2.start, rIsi, rIxT, rIxL, cx_K, tyN_non, tyN_bl, tyN_int, tyN_str, isi_ii, isi_ib, isi_it, isi_il, isi_bi, isi_bb, isi_tt, isi_ni, isi_si, isi_ti, isi_li, isi_di, isi_ll, scal_ii, scal_bb, sz0, sz1, sz2, sz3, sz4, List.map_cons, List.map_nil, List.length_cons, List.length_nil, List.replicate, List.cons_append, List.nil_append, List.append_nil, List.getElem?_cons_zero, List.getElem?_cons_succ, List.set_cons_zero, List.set_cons_succ, Option.some.injEq, V.int.injEq, V.bl.injEq, V.ref.injEq, V.ty.injEq, List.cons.injEq, and_true, true_and, exists_eq_left, exists_eq_left', exists_and_left, exists_and_right, exists_eq, exists_eq', and_assoc, Nat.reduceAdd, Nat.reduceSub, Bool.not_true, Bool.not_false, Bool.false_eq_true, if_true, if_false, reduceIte, Nat.zero_add, decide_true, decide_false, selC, comp_K, tYes, Option.join_some, rIxTH, rIxLH, rLenH, rIsiF, at0, at1, at2, at3, at4, at5, at6, at7, at8, HO.tup.injEq, HO.lst.injEq, reduceCtorEq, false_or, or_false, tyF_non, tyF_bl, tyF_int, tyF_str, exists_const, Int.reduceAdd, Int.reduceMul, Int.reduceSub, gSub, rSetL, tSl, tPart, tNoPart, rSlH, upd_same, upd_upd, rIntB, rListH, tBM, tBM0, rAppend, rClear, tPar, gTupH]
  refine tComp_mk ?_
  refine ⟨_, rfl, D, rfl, ⟨_, .of hD1⟩, fun A hA => ?_⟩
  refine comp_list (xs := zs) (fun i ws H' => Same H1 H' ∧ H' A = some (.lst ws) ∧ ws = (((ds.map srt).take i).map (onQ r)).map V.bl) ⟨same_new hA _, upd_same, rfl⟩ (fun i ws H' p => .of (p.1 _ _ hD1)) ?_ ?_
  · rintro i ws H2 v hi hv ⟨g2, hA2, ew⟩
    obtain ⟨p, d, rfl, hd, hp⟩ := hs1.2 i v hv
    obtain ⟨a, b, hp, ha, hb⟩ := hp.ts (ts_same g2)
    have hq2 := hq1.same g2
    simp only [tSeq, tNext, tRet, tRetN, tIfS, tAsg, gName, tDrop, tVar, tC, tOp, tUn, rI, rI0, rU, rEq, rNe, tTest, tB, tNot, tAnd, tOr, tAndV, tOrV, tNotV, tIf, tCB, tCall, tNil, tCons, tTup, tLst, gTup, gCons, gNil, L2.start, rIsi, rIxT, rIxL, cx_K, tyN_non, tyN_bl, tyN_int, tyN_str, isi_ii, isi_ib, isi_it, isi_il, isi_bi, isi_bb, isi_tt, isi_ni, isi_si, isi_ti, isi_li, isi_di, isi_ll, scal_ii, scal_bb, sz0, sz1, sz2, sz3, sz4, List.map_cons, List.map_nil, List.length_cons, List.length_nil, List.replicate, List.cons_append, List.nil_append, List.append_nil, List.getElem?_cons_zero, List.getElem?_cons_succ, List.set_cons_zero, List.set_cons_succ, Option.some.injEq, V.int.injEq, V.bl.injEq, V.ref.injEq, V.ty.injEq, List.cons.injEq, and_true, true_and, exists_eq_left, exists_eq_left', exists_and_left, exists_and_right, exists_eq, exists_eq', and_assoc, Nat.reduceAdd, Nat.reduceSub, Bool.not_true, Bool.not_false, Bool.false_eq_true, if_true, if_false, reduceIte, Nat.zero_add, decide_true, decide_false, selC, comp_K, tYes, Option.join_some, rIxTH, rIxLH, rLenH, rIsiF, at0, at1, at2, at3, at4, at5, at6, at7, at8, HO.tup.injEq, HO.lst.injEq, reduceCtorEq, false_or, or_false, tyF_non, tyF_bl, tyF_int, tyF_str, exists_const, Int.reduceAdd, Int.reduceMul, Int.reduceSub, gSub, rSetL, tSl, tPart, tNoPart, rSlH, upd_same, upd_upd, rIntB, rListH, tBM, tBM0, rAppend, rClear, tPar, gTupH]
    refine ⟨q, p, a, b, _, _, _, _, _, _, _, _, _, rfl, hp, ha, hb, hq2, fun H3 g3 => ?_⟩
    have wl : ws.length ≤ i := by rw [ew, List.length_map, List.length_map, List.length_take]; omega
    refine cw_put hi (g3 _ _ hA2) (Nat.lt_of_le_of_lt (show ws.length ≤ 1000 by omega) (by decide)) ⟨same_put (g2.trans g3) hA, upd_same, ?_⟩
    rw [ew, List.take_add_one, hd, List.map_append, List.map_append]
    rfl
  · rintro ws H2 ⟨g2, hA2, ew⟩
    rw [List.take_of_length_le (by omega)] at ew
    have hq2 := hq1.same g2
    have hs2 := hs1.ts (ts_same g2)
    have hD2 := g2 _ _ hD1
    have ea : ((ds.map srt).map (onQ r)).any id = ds.any fun d => onQ r (srt d) := by rw [List.any_map, List.any_map]; rfl
    unfold whV at k
    simp only [rAny, tSeq, tNext, tRet, tRetN, tIfS, tAsg, gName, tDrop, tVar, tC, tOp, tUn, rI, rI0, rU, rEq, rNe, tTest, tB, tNot, tAnd, tOr, tAndV, tOrV, tNotV, tIf, tCB, tCall, tNil, tCons, tTup, tLst, gTup, gCons, gNil, L2.start, rIsi, rIxT, rIxL, cx_K, tyN_non, tyN_bl, tyN_int, tyN_str, isi_ii, isi_ib, isi_it, isi_il, isi_bi, isi_bb, isi_tt, isi_ni, isi_si, isi_ti, isi_li, isi_di, isi_ll, scal_ii, scal_bb, sz0, sz1, sz2, sz3, sz4, List.map_cons, List.map_nil, List.length_cons, List.length_nil, List.replicate, List.cons_append, List.nil_append, List.append_nil, List.getElem?_cons_zero, List.getElem?_cons_succ, List.set_cons_zero, List.set_cons_succ, Option.some.injEq, V.int.injEq, V.bl.injEq, V.ref.injEq, V.ty.injEq, List.cons.injEq, and_true, true_and, exists_eq_left, exists_eq_left', exists_and_left, exists_and_right, exists_eq, exists_eq', and_assoc, Nat.reduceAdd, Nat.reduceSub, Bool.not_true, Bool.not_false, Bool.false_eq_true, if_true, if_false, reduceIte, Nat.zero_add, decide_true, decide_false, selC, comp_K, tYes, Option.join_some, rIxTH, rIxLH, rLenH, rIsiF, at0, at1, at2, at3, at4, at5, at6, at7, at8, HO.tup.injEq, HO.lst.injEq, reduceCtorEq, false_or, or_false, tyF_non, tyF_bl, tyF_int, tyF_str, exists_const, Int.reduceAdd, Int.reduceMul, Int.reduceSub, gSub, rSetL, tSl, tPart, tNoPart, rSlH, upd_same, upd_upd, rIntB, rListH, tBM, tBM0, rAppend, rClear, tPar, gTupH]
    refine ⟨(ds.map srt).map (onQ r), by rw [hA2, ew], ?_⟩
    rw [ea]
    refine ite2 (fun c => ?_) (fun c => ?_)
    · have z := k H2 (g1.trans g2)
      rw [if_pos c] at z
      exact z
    · refine ⟨D, q, zs, ds.map srt, r.x, r.y, r.w, rfl, hD2, by omega, hs2, hq2, fun H3 g3 => ⟨_, rfl, by decide, ite2 (fun c2 => ?_) (fun c2 => ?_)⟩⟩
      · have z := k H3 (g1.trans (g2.trans g3))
        have c2 := of_decide_eq_true c2
        rw [if_neg c, if_pos (by omega)] at z
        exact z
      · have z := k H3 (g1.trans (g2.trans g3))
        have c2 : ¬ ((cntAb (ds.map srt) r.x r.y r.w : Nat) : Int) % 2 = 1 := fun y => c2 (decide_eq_true y)
        rw [if_neg c, if_neg (by omega)] at z
        exact z
theorem ok_area (T : Txt K mg ad fd) : FnOk P w K mg base CX0 5 (ad 17) (fd 17) ["land"] sp_area := by
  refine T.area.fn.ok sc_area (fun vs H Q E h => ?_) (fun cdv A outer s H vs Q E hr h => ?_)
  · obtain ⟨l, ys, ds, D, ns, rfl, _⟩ := h
    rfl
  obtain ⟨l, ys, ds, D, ns, rfl, hl, hz, hs, hD, ar, hA, k⟩ := h
  have qpss_one := @pss_one
  have qps_ret := @ps_ret
  have qpe_call := @pe_call
  have qpa1 := @pa1
  have qpe_comp := @pe_comp
  unfold L2.CompBody at qpe_comp
  have qpi_list := @pi_list
  have qpv := @pv
  have qpg_tupH := @pg_tupH
  have qpgs_cons := @pgs_cons
  have qpg_name := @pg_name
  have qpgs_nil := @pgs_nil
  have qpif_nil := @pif_nil
  have qpa2 := @pa2
  have qpe_op := @pe_op
  have qpe_ix := @pe_ix
  have qpe_int := @pe_int
  generalize @L2.PE = QE, @L2.PT = QT, @L2.PW = QW, @L2.PA = QA, @L2.PS = QS, @L2.PSs = QSs, @L2.PG = QG, @L2.PGs = QGs, @L2.PI = QI, @L2.PO = QO, @L2.PIf = QIf at qpss_one qps_ret qpe_call qpa1 qpe_comp qpi_list qpv qpg_tupH qpgs_cons qpg_name qpgs_nil qpif_nil qpa2 qpe_op qpe_ix qpe_int ⊢
  refine ⟨_,
    (qpss_one (qps_ret (qpe_call (ok_half T) (hr.mono (by decide)) rfl T.half.mg T.half.fn.kp T.half.bn .nil pass0 (qpa1 (qpe_call (ok_total T) (hr.mono (by decide)) rfl T.total.mg T.total.fn.kp T.total.bn .nil pass0 (qpa1 (qpe_comp (dsc := defScope s_area) (N := ["land"]) (own := ["P", "Q"]) (ix := []) rfl rfl rfl ⟨rfl, by decide +kernel, by decide +kernel, by decide +kernel, by decide +kernel⟩ (qpi_list (qpv 0)) (fun cl C fp s2 H2 xe => ⟨(qpg_tupH (n := 2) rfl (qpgs_cons (qpg_name (i := 0) (show List.Nodup (["P", "Q"] : List Str) from by decide +kernel) rfl (Or.inl rfl) (Or.inr rfl)) (qpgs_cons (qpg_name (i := 1) (show List.Nodup (["P", "Q"] : List Str) from by decide +kernel) rfl (Or.inl rfl) (Or.inr rfl)) qpgs_nil))), qpif_nil, (qpe_call (ok_fraction T) (hr.mono (by decide)) rfl T.fraction.mg T.fraction.fn.kp T.fraction.bn .nil pass0 (qpa2 (qpe_op op_sub (qpe_op op_mulB (qpe_ix ix_tupH (qpv 0) qpe_int (fun _ _ => rfl)) (qpe_ix ix_tupH (qpv 1) qpe_int (fun _ _ => rfl))) (qpe_op op_mulB (qpe_ix ix_tupH (qpv 1) qpe_int (fun _ _ => rfl)) (qpe_ix ix_tupH (qpv 0) qpe_int (fun _ _ => rfl)))) ns_BinOp (qpe_op op_mulB (qpe_ix ix_tupH (qpv 0) qpe_int (fun _ _ => rfl)) (qpe_ix ix_tupH (qpv 1) qpe_int (fun _ _ => rfl))) ns_BinOp))⟩)) ns_ListComp)) ns_Call))))
    , ?_⟩
  clear  qpss_one qps_ret qpe_call qpa1 qpe_comp qpi_list qpv qpg_tupH qpgs_cons qpg_name qpgs_nil qpif_nil qpa2 qpe_op qpe_ix qpe_int QE QT QW QA QS QSs QG QGs QI QO QIf
  simp only [tSeq, tAsg, L2.start, cx_K, List.map_cons, List.map_nil, List.length_cons, List.length_nil, List.replicate, List.cons_append, List.nil_append, Nat.reduceAdd, Nat.reduceSub, Nat.zero_add, tRet, tCall, tCons, tNil, List.append_nil]
  refine tComp_mk ?_
  refine ⟨_, rfl, l, rfl, ⟨_, .of hl⟩, fun A hA' => ?_⟩
  refine comp_list (xs := ys) (iv_lr (FrH D) ns H A) (iv_lr_nil hA') (fun i zs H' p => .of (p.1 _ _ hl)) ?_ ?_
  · rintro i zs H2 v hi hv iv
    obtain ⟨p, d, rfl, hd, hp⟩ := hs.2 i v hv
    obtain ⟨a, b, hp, ha, hb⟩ := hp.ts (ts_same iv.1)
    have hin : i < ns.length := by rw [ar.1, ← hs.1]; exact hi
    have en : ns[i]? = some ns[i] := List.getElem?_eq_getElem hin
    obtain ⟨pb, ee⟩ := ar.2 i d _ hd en
    have pb' : d.w1 * d.w2 ≠ 0 := by unfold crB at pb; omega
    simp only [tSeq, tNext, tRet, tRetN, tIfS, tAsg, gName, tDrop, tVar, tC, tOp, tUn, rI, rI0, rU, rEq, rNe, tTest, tB, tNot, tAnd, tOr, tAndV, tOrV, tNotV, tIf, tCB, tCall, tNil, tCons, tTup, tLst, gTup, gCons, gNil, L2.start, rIsi, rIxT, rIxL, cx_K, tyN_non, tyN_bl, tyN_int, tyN_str, isi_ii, isi_ib, isi_it, isi_il, isi_bi, isi_bb, isi_tt, isi_ni, isi_si, isi_ti, isi_li, isi_di, isi_ll, scal_ii, scal_bb, sz0, sz1, sz2, sz3, sz4, List.map_cons, List.map_nil, List.length_cons, List.length_nil, List.replicate, List.cons_append, List.nil_append, List.append_nil, List.getElem?_cons_zero, List.getElem?_cons_succ, List.set_cons_zero, List.set_cons_succ, Option.some.injEq, V.int.injEq, V.bl.injEq, V.ref.injEq, V.ty.injEq, List.cons.injEq, and_true, true_and, exists_eq_left, exists_eq_left', exists_and_left, exists_and_right, exists_eq, exists_eq', and_assoc, Nat.reduceAdd, Nat.reduceSub, Bool.not_true, Bool.not_false, Bool.false_eq_true, if_true, if_false, reduceIte, Nat.zero_add, decide_true, decide_false, selC, comp_K, tYes, Option.join_some, rIxTH, rIxLH, rLenH, rIsiF, at0, at1, at2, at3, at4, at5, at6, at7, at8, HO.tup.injEq, HO.lst.injEq, reduceCtorEq, false_or, or_false, tyF_non, tyF_bl, tyF_int, tyF_str, exists_const, Int.reduceAdd, Int.reduceMul, Int.reduceSub, gSub, rSetL, tSl, tPart, tNoPart, rSlH, upd_same, upd_upd, rIntB, rListH, tBM, tBM0, rAppend, rClear, tPar, gTupH, hp, ha.1, hb.1]
    refine ⟨cbig ha.2.1 hb.2.2.1, cbig hb.2.1 ha.2.2.1, cbig ha.2.2.2 hb.2.2.2, _, _, rfl, pb', lt_mono (mul_lt ha.2.2.2 hb.2.2.2) (by decide), fun r H3 g3 hr => ?_⟩
    exact iv_lr_put frh_ts hA' (by omega) iv hi en g3 ⟨_, _, hr, frd_fr pb ee⟩
  · rintro zs H2 ⟨g2, hA2, hn, hw⟩
    rw [List.take_of_length_le (by rw [ar.1, hs.1]; omega)] at hw
    refine ⟨A, zs, D, ns, rfl, hA2, by omega, hD, hw, hA, fun r H3 g3 hr => ?_⟩
    have sl : ∀ ms : List Int, ((sumN ms).natAbs : Int) ≤ sumA ms := fun ms => by
      induction ms with
      | nil => decide
      | cons m ms ih => unfold sumN sumA at *; simp only [sumI]; omega
    have ln : (sumN ns).natAbs < 2 ^ 300 := by
      have : ((sumN ns).natAbs : Int) < 2 ^ 300 := by have := sl ns; omega
      exact_mod_cast this
    exact ⟨r, D, sumN ns, rfl, hD, ln, hr, fun r2 H4 g4 hr2 => k r2 H4 (g2.trans (g3.trans g4)) hr2⟩
def D2H (H : Hp) (p : Addr) (d : Int × Int) : Prop := H p = some (.tup [.int d.1, .int d.2])
theorem idxK_succ (i : Nat) : idxK (i + 1) = idxK i ++ dirs.map fun d => ⟨(i : Int) % 5, (i : Int) / 5, d.1, d.2⟩ := by
  unfold idxK
  rw [List.range_succ, List.flatMap_append]
  simp
theorem ts_trans {H H' H'' : Hp} (a : TupSame H H') (b : TupSame H' H'') : TupSame H H'' := fun p xs h => b _ _ (a _ _ h)
theorem ok_law_ways (T : Txt K mg ad fd) : FnOk P w K mg base CX0 4 (ad 25) (fd 25) ["_law_held_here"] sp_ways := by
  refine T.law_ways.fn.ok sc_law_ways (fun vs H Q E h => ?_) (fun cdv A outer s H vs Q E hr h => ?_)
  · obtain ⟨l, bs, rfl, _⟩ := h
    rfl
  obtain ⟨l, bs, rfl, hb, k⟩ := h
  have qpss3 := @pss3
  have qps_set := @ps_set
  have qpe_lst := @pe_lst
  have qpa_nil := @pa_nil
  have qps_for := @ps_for
  have qpi_range1 := @pi_range1
  have qpa1 := @pa1
  have qpe_int := @pe_int
  have qpg_name := @pg_name
  have qpe_op := @pe_op
  have qpv := @pv
  have qpi_list := @pi_list
  have qpa4 := @pa4
  have qpe_tup := @pe_tup
  have qpa2 := @pa2
  have qpe_un := @pe_un
  have qpg_tupH := @pg_tupH
  have qpgs_cons := @pgs_cons
  have qpgs_nil := @pgs_nil
  have qpss_one := @pss_one
  have qps_if := @ps_if
  have qPWpt := @PW.pt
  have qpw_and := @pw_and
  have qpt_not := @pt_not
  have qpt_val := @pt_val
  have qpe_call := @pe_call
  have qpa3 := @pa3
  have qpw_and1 := @pw_and1
  have qpa5 := @pa5
  have qps_while := @ps_while
  have qps_expr := @ps_expr
  have qpe_bm := @pe_bm
  have qpss_nil := @pss_nil
  have qps_ret := @ps_ret
  generalize @L2.PE = QE, @L2.PT = QT, @L2.PW = QW, @L2.PA = QA, @L2.PS = QS, @L2.PSs = QSs, @L2.PG = QG, @L2.PGs = QGs, @L2.PI = QI, @L2.PO = QO, @L2.PIf = QIf at qpss3 qps_set qpe_lst qpa_nil qps_for qpi_range1 qpa1 qpe_int qpg_name qpe_op qpv qpi_list qpa4 qpe_tup qpa2 qpe_un qpg_tupH qpgs_cons qpgs_nil qpss_one qps_if qPWpt qpw_and qpt_not qpt_val qpe_call qpa3 qpw_and1 qpa5 qps_while qps_expr qpe_bm qpss_nil qps_ret ⊢
  refine ⟨_,
    (qpss3
      (qps_set (i := 1) sc_law_ways.nd rfl (Or.inl rfl) (qpe_lst qpa_nil))
      (qps_for PassesOwn.never rfl (qpi_range1 rfl T.b_range (qpa1 qpe_int ns_Constant)) (qpg_name (i := 2) sc_law_ways.nd rfl (Or.inl rfl)) (qpss3
      (qps_set (i := 3) sc_law_ways.nd rfl (Or.inl rfl) (qpe_op op_mod (qpv 2) qpe_int))
      (qps_set (i := 4) sc_law_ways.nd rfl (Or.inl rfl) (qpe_op op_fdiv (qpv 2) qpe_int))
      (qps_for PassesOwn.never rfl (qpi_list (qpe_lst (qpa4 (qpe_tup (qpa2 qpe_int ns_Constant qpe_int ns_Constant)) ns_Tuple (qpe_tup (qpa2 qpe_int ns_Constant qpe_int ns_Constant)) ns_Tuple (qpe_tup (qpa2 (qpe_un un_neg qpe_int) ns_UnaryOp qpe_int ns_Constant)) ns_Tuple (qpe_tup (qpa2 qpe_int ns_Constant (qpe_un un_neg qpe_int) ns_UnaryOp)) ns_Tuple))) (qpg_tupH (n := 2) rfl (qpgs_cons (qpg_name (i := 5) sc_law_ways.nd rfl (Or.inl rfl)) (qpgs_cons (qpg_name (i := 6) sc_law_ways.nd rfl (Or.inl rfl)) qpgs_nil))) (qpss_one (qps_if (qPWpt (qpw_and (qpt_not (qpt_val (qpe_call (ok_law_smooth T) (hr.mono (by decide)) rfl T.law_smooth.mg T.law_smooth.fn.kp T.law_smooth.bn .nil pass0 (qpa3 (qpv 0) ns_Name (qpv 3) ns_Name (qpv 4) ns_Name)))) (qpw_and1 (qpt_val (qpe_call (ok_law_leaves T) (hr.mono (by decide)) rfl T.law_leaves.mg T.law_leaves.fn.kp T.law_leaves.bn .nil pass0 (qpa5 (qpv 0) ns_Name (qpv 3) ns_Name (qpv 4) ns_Name (qpv 5) ns_Name (qpv 6) ns_Name)))))) (qpss3
      (qps_set (i := 7) sc_law_ways.nd rfl (Or.inl rfl) qpe_int)
      (qps_while PassesOwn.never (qpt_val (qpe_call (ok_law_smooth T) (hr.mono (by decide)) rfl T.law_smooth.mg T.law_smooth.fn.kp T.law_smooth.bn .nil pass0 (qpa3 (qpv 0) ns_Name (qpe_op op_add (qpv 3) (qpe_op op_mulB (qpv 7) (qpv 5))) ns_BinOp (qpe_op op_add (qpv 4) (qpe_op op_mulB (qpv 7) (qpv 6))) ns_BinOp))) (qpss_one (qps_set (i := 7) sc_law_ways.nd rfl (Or.inl rfl) (qpe_op op_add (qpv 7) qpe_int))))
      (qps_expr (qpe_bm PySem.F.plainAttrs_list PySem.F.slot_list_append PySem.F.type_list_append mt_append (qpv 1) (qpa1 (qpe_tup (qpa4 (qpv 3) ns_Name (qpv 4) ns_Name (qpe_op op_add (qpv 3) (qpe_op op_mulB (qpv 7) (qpv 5))) ns_BinOp (qpe_op op_add (qpv 4) (qpe_op op_mulB (qpv 7) (qpv 6))) ns_BinOp)) ns_Tuple)))) qpss_nil)))))
      (qps_ret (qpv 1)))
    , ?_⟩
  clear  qpss3 qps_set qpe_lst qpa_nil qps_for qpi_range1 qpa1 qpe_int qpg_name qpe_op qpv qpi_list qpa4 qpe_tup qpa2 qpe_un qpg_tupH qpgs_cons qpgs_nil qpss_one qps_if qPWpt qpw_and qpt_not qpt_val qpe_call qpa3 qpw_and1 qpa5 qps_while qps_expr qpe_bm qpss_nil qps_ret QE QT QW QA QS QSs QG QGs QI QO QIf
  simp only [tSeq, tNext, tRet, tRetN, tIfS, tAsg, gName, tDrop, tVar, tC, tOp, tUn, rI, rI0, rU, rEq, rNe, tTest, tB, tNot, tAnd, tOr, tAndV, tOrV, tNotV, tIf, tCB, tCall, tNil, tCons, tTup, tLst, gTup, gCons, gNil, L2.start, rIsi, rIxT, rIxL, cx_K, tyN_non, tyN_bl, tyN_int, tyN_str, isi_ii, isi_ib, isi_it, isi_il, isi_bi, isi_bb, isi_tt, isi_ni, isi_si, isi_ti, isi_li, isi_di, isi_ll, scal_ii, scal_bb, sz0, sz1, sz2, sz3, sz4, List.map_cons, List.map_nil, List.length_cons, List.length_nil, List.replicate, List.cons_append, List.nil_append, List.append_nil, List.getElem?_cons_zero, List.getElem?_cons_succ, List.set_cons_zero, List.set_cons_succ, Option.some.injEq, V.int.injEq, V.bl.injEq, V.ref.injEq, V.ty.injEq, List.cons.injEq, and_true, true_and, exists_eq_left, exists_eq_left', exists_and_left, exists_and_right, exists_eq, exists_eq', and_assoc, Nat.reduceAdd, Nat.reduceSub, Bool.not_true, Bool.not_false, Bool.false_eq_true, if_true, if_false, reduceIte, Nat.zero_add, decide_true, decide_false, selC, comp_K, tYes, Option.join_some, rIxTH, rIxLH, rLenH, rIsiF, at0, at1, at2, at3, at4, at5, at6, at7, at8, HO.tup.injEq, HO.lst.injEq, reduceCtorEq, false_or, or_false, tyF_non, tyF_bl, tyF_int, tyF_str, exists_const, Int.reduceAdd, Int.reduceMul, Int.reduceSub, gSub, rSetL, tSl, tPart, tNoPart, rSlH, upd_same, upd_upd, rIntB, rListH, tBM, tBM0, rAppend, rClear, tPar, gTupH]
  intro D hD
  have gD := same_new hD (HO.lst [])
  refine tFor_mk ?_
  simp only [iRng1, tSeq, tNext, tRet, tRetN, tIfS, tAsg, gName, tDrop, tVar, tC, tOp, tUn, rI, rI0, rU, rEq, rNe, tTest, tB, tNot, tAnd, tOr, tAndV, tOrV, tNotV, tIf, tCB, tCall, tNil, tCons, tTup, tLst, gTup, gCons, gNil, L2.start, rIsi, rIxT, rIxL, cx_K, tyN_non, tyN_bl, tyN_int, tyN_str, isi_ii, isi_ib, isi_it, isi_il, isi_bi, isi_bb, isi_tt, isi_ni, isi_si, isi_ti, isi_li, isi_di, isi_ll, scal_ii, scal_bb, sz0, sz1, sz2, sz3, sz4, List.map_cons, List.map_nil, List.length_cons, List.length_nil, List.replicate, List.cons_append, List.nil_append, List.append_nil, List.getElem?_cons_zero, List.getElem?_cons_succ, List.set_cons_zero, List.set_cons_succ, Option.some.injEq, V.int.injEq, V.bl.injEq, V.ref.injEq, V.ty.injEq, List.cons.injEq, and_true, true_and, exists_eq_left, exists_eq_left', exists_and_left, exists_and_right, exists_eq, exists_eq', and_assoc, Nat.reduceAdd, Nat.reduceSub, Bool.not_true, Bool.not_false, Bool.false_eq_true, if_true, if_false, reduceIte, Nat.zero_add, decide_true, decide_false, selC, comp_K, tYes, Option.join_some, rIxTH, rIxLH, rLenH, rIsiF, at0, at1, at2, at3, at4, at5, at6, at7, at8, HO.tup.injEq, HO.lst.injEq, reduceCtorEq, false_or, or_false, tyF_non, tyF_bl, tyF_int, tyF_str, exists_const, Int.reduceAdd, Int.reduceMul, Int.reduceSub, gSub, rSetL, tSl, tPart, tNoPart, rSlH, upd_same, upd_upd, rIntB, rListH, tBM, tBM0, rAppend, rClear, tPar, gTupH]
  refine ⟨by decide, by decide, for_range (fun i σ H' => Same H H' ∧ ∃ (zs : List V) (o1 o2 o3 o4 o5 o6 : Option V), σ = [some (.ref l), some (.ref D), o1, o2, o3, o4, o5, o6] ∧ H' D = some (.lst zs) ∧ zs.length ≤ 4 * i ∧ LR W4H H' zs ((idxK i).flatMap (wayL (inB bs)))) ⟨gD, [], none, none, none, none, none, none, rfl, upd_same, Nat.le_refl _, .nil⟩ ?_ ?_⟩
  · rintro i σ H2 hi ⟨g2, zs, o1, o2, o3, o4, o5, o6, rfl, hD2, hz, hw⟩
    have hi : i < 25 := hi
    simp only [tSeq, tNext, tRet, tRetN, tIfS, tAsg, gName, tDrop, tVar, tC, tOp, tUn, rI, rI0, rU, rEq, rNe, tTest, tB, tNot, tAnd, tOr, tAndV, tOrV, tNotV, tIf, tCB, tCall, tNil, tCons, tTup, tLst, gTup, gCons, gNil, L2.start, rIsi, rIxT, rIxL, cx_K, tyN_non, tyN_bl, tyN_int, tyN_str, isi_ii, isi_ib, isi_it, isi_il, isi_bi, isi_bb, isi_tt, isi_ni, isi_si, isi_ti, isi_li, isi_di, isi_ll, scal_ii, scal_bb, sz0, sz1, sz2, sz3, sz4, List.map_cons, List.map_nil, List.length_cons, List.length_nil, List.replicate, List.cons_append, List.nil_append, List.append_nil, List.getElem?_cons_zero, List.getElem?_cons_succ, List.set_cons_zero, List.set_cons_succ, Option.some.injEq, V.int.injEq, V.bl.injEq, V.ref.injEq, V.ty.injEq, List.cons.injEq, and_true, true_and, exists_eq_left, exists_eq_left', exists_and_left, exists_and_right, exists_eq, exists_eq', and_assoc, Nat.reduceAdd, Nat.reduceSub, Bool.not_true, Bool.not_false, Bool.false_eq_true, if_true, if_false, reduceIte, Nat.zero_add, decide_true, decide_false, selC, comp_K, tYes, Option.join_some, rIxTH, rIxLH, rLenH, rIsiF, at0, at1, at2, at3, at4, at5, at6, at7, at8, HO.tup.injEq, HO.lst.injEq, reduceCtorEq, false_or, or_false, tyF_non, tyF_bl, tyF_int, tyF_str, exists_const, Int.reduceAdd, Int.reduceMul, Int.reduceSub, gSub, rSetL, tSl, tPart, tNoPart, rSlH, upd_same, upd_upd, rIntB, rListH, tBM, tBM0, rAppend, rClear, tPar, gTupH, Int.zero_add]
    refine ⟨by decide, ⟨by decide, by decide⟩, ?_⟩
    refine tFor_mk ?_
    simp only [iList, tSeq, tNext, tRet, tRetN, tIfS, tAsg, gName, tDrop, tVar, tC, tOp, tUn, rI, rI0, rU, rEq, rNe, tTest, tB, tNot, tAnd, tOr, tAndV, tOrV, tNotV, tIf, tCB, tCall, tNil, tCons, tTup, tLst, gTup, gCons, gNil, L2.start, rIsi, rIxT, rIxL, cx_K, tyN_non, tyN_bl, tyN_int, tyN_str, isi_ii, isi_ib, isi_it, isi_il, isi_bi, isi_bb, isi_tt, isi_ni, isi_si, isi_ti, isi_li, isi_di, isi_ll, scal_ii, scal_bb, sz0, sz1, sz2, sz3, sz4, List.map_cons, List.map_nil, List.length_cons, List.length_nil, List.replicate, List.cons_append, List.nil_append, List.append_nil, List.getElem?_cons_zero, List.getElem?_cons_succ, List.set_cons_zero, List.set_cons_succ, Option.some.injEq, V.int.injEq, V.bl.injEq, V.ref.injEq, V.ty.injEq, List.cons.injEq, and_true, true_and, exists_eq_left, exists_eq_left', exists_and_left, exists_and_right, exists_eq, exists_eq', and_assoc, Nat.reduceAdd, Nat.reduceSub, Bool.not_true, Bool.not_false, Bool.false_eq_true, if_true, if_false, reduceIte, Nat.zero_add, decide_true, decide_false, selC, comp_K, tYes, Option.join_some, rIxTH, rIxLH, rLenH, rIsiF, at0, at1, at2, at3, at4, at5, at6, at7, at8, HO.tup.injEq, HO.lst.injEq, reduceCtorEq, false_or, or_false, tyF_non, tyF_bl, tyF_int, tyF_str, exists_const, Int.reduceAdd, Int.reduceMul, Int.reduceSub, gSub, rSetL, tSl, tPart, tNoPart, rSlH, upd_same, upd_upd, rIntB, rListH, tBM, tBM0, rAppend, rClear, tPar, gTupH]
    intro p1 h1 p2 h2 p3 h3 p4 h4 L hL
    have s1 := same_new h1 (HO.tup [V.int 1, V.int 0])
    have s2 := same_new h2 (HO.tup [V.int 0, V.int 1])
    have s3 := same_new h3 (HO.tup [V.int (-1), V.int 0])
    have s4 := same_new h4 (HO.tup [V.int 0, V.int (-1)])
    have s5 := same_new hL (HO.lst [V.ref p1, V.ref p2, V.ref p3, V.ref p4])
    have hL7 := upd_same (H := upd (upd (upd (upd H2 p1 (HO.tup [V.int 1, V.int 0])) p2 (HO.tup [V.int 0, V.int 1])) p3 (HO.tup [V.int (-1), V.int 0])) p4 (HO.tup [V.int 0, V.int (-1)])) (a := L) (o := HO.lst [V.ref p1, V.ref p2, V.ref p3, V.ref p4])
    have d7 : LR D2H (upd (upd (upd (upd (upd H2 p1 (HO.tup [V.int 1, V.int 0])) p2 (HO.tup [V.int 0, V.int 1])) p3 (HO.tup [V.int (-1), V.int 0])) p4 (HO.tup [V.int 0, V.int (-1)])) L (HO.lst [V.ref p1, V.ref p2, V.ref p3, V.ref p4])) [V.ref p1, V.ref p2, V.ref p3, V.ref p4] dirs := .cons ⟨p1, rfl, s5 _ _ (s4 _ _ (s3 _ _ (s2 _ _ upd_same)))⟩ (.cons ⟨p2, rfl, s5 _ _ (s4 _ _ (s3 _ _ upd_same))⟩ (.cons ⟨p3, rfl, s5 _ _ (s4 _ _ upd_same)⟩ (.cons ⟨p4, rfl, s5 _ _ upd_same⟩ .nil)))
    have g27 := s1.trans (s2.trans (s3.trans (s4.trans s5)))
    have nL : L ≠ D := (ne_of_none (s4 _ _ (s3 _ _ (s2 _ _ (s1 _ _ hD2)))) hL).symm
    clear s1 s2 s3 s4 s5 h1 h2 h3 h4 hL
    generalize upd (upd (upd (upd (upd H2 p1 (HO.tup [V.int 1, V.int 0])) p2 (HO.tup [V.int 0, V.int 1])) p3 (HO.tup [V.int (-1), V.int 0])) p4 (HO.tup [V.int 0, V.int (-1)])) L (HO.lst [V.ref p1, V.ref p2, V.ref p3, V.ref p4]) = H7 at *
    have eta : ∀ j, (dirs.take (j + 1)).map (fun d => (⟨(i : Int) % 5, (i : Int) / 5, d.1, d.2⟩ : W4)) = (dirs.take j).map (fun d => (⟨(i : Int) % 5, (i : Int) / 5, d.1, d.2⟩ : W4)) ++ (dirs[j]?.toList).map (fun d => (⟨(i : Int) % 5, (i : Int) / 5, d.1, d.2⟩ : W4)) := fun j => by
      rw [List.take_add_one, List.map_append]
    refine ⟨⟨_, .of hL7⟩, forW_list (K := K) (a := L) (xs := [V.ref p1, V.ref p2, V.ref p3, V.ref p4]) (fun j σ H' => Same H H' ∧ TupSame H7 H' ∧ H' L = some (.lst [V.ref p1, V.ref p2, V.ref p3, V.ref p4]) ∧ ∃ (zs : List V) (o4 o5 o6 : Option V), σ = [some (.ref l), some (.ref D), some (.int i), some (.int ((i : Int) % 5)), some (.int ((i : Int) / 5)), o4, o5, o6] ∧ H' D = some (.lst zs) ∧ zs.length ≤ 4 * i + j ∧ LR W4H H' zs ((idxK i).flatMap (wayL (inB bs)) ++ ((dirs.take j).map (fun d => (⟨(i : Int) % 5, (i : Int) / 5, d.1, d.2⟩ : W4))).flatMap (wayL (inB bs)))) ⟨g2.trans g27, fun _ _ h => h, hL7, zs, o4, o5, o6, rfl, g27 _ _ hD2, hz, by rw [List.take_zero, List.map_nil, List.flatMap_nil, List.append_nil]; exact hw.ts w4h_ts (ts_same g27)⟩ (fun j σ H' _ iv => .of iv.2.2.1) ?_ ?_⟩
    · rintro j v σ H3 hj ⟨g3, t3, hL3, zs, o4, o5, o6, rfl, hD3, hz3, hw3⟩
      obtain ⟨q, d, rfl, hd, hq⟩ := d7.2 j v hj
      have hq3 : H3 q = some (.tup [.int d.1, .int d.2]) := t3 _ _ hq
      have dm := List.mem_of_getElem? hd
      have j4 : j < 4 := (List.getElem?_eq_some_iff.mp hj).1
      rw [eta, hd, Option.toList_some, List.map_cons, List.map_nil, List.flatMap_append, List.flatMap_singleton, ← List.append_assoc]
      have hx : 0 ≤ (i : Int) % 5 ∧ (i : Int) % 5 ≤ 4 := by omega
      have hy : 0 ≤ (i : Int) / 5 ∧ (i : Int) / 5 ≤ 4 := by omega
      generalize (idxK i).flatMap (wayL (inB bs)) ++ ((dirs.take j).map (fun d => (⟨(i : Int) % 5, (i : Int) / 5, d.1, d.2⟩ : W4))).flatMap (wayL (inB bs)) = ps at *
      simp only [tSeq, tNext, tRet, tRetN, tIfS, tAsg, gName, tDrop, tVar, tC, tOp, tUn, rI, rI0, rU, rEq, rNe, tTest, tB, tNot, tAnd, tOr, tAndV, tOrV, tNotV, tIf, tCB, tCall, tNil, tCons, tTup, tLst, gTup, gCons, gNil, L2.start, rIsi, rIxT, rIxL, cx_K, tyN_non, tyN_bl, tyN_int, tyN_str, isi_ii, isi_ib, isi_it, isi_il, isi_bi, isi_bb, isi_tt, isi_ni, isi_si, isi_ti, isi_li, isi_di, isi_ll, scal_ii, scal_bb, sz0, sz1, sz2, sz3, sz4, List.map_cons, List.map_nil, List.length_cons, List.length_nil, List.replicate, List.cons_append, List.nil_append, List.append_nil, List.getElem?_cons_zero, List.getElem?_cons_succ, List.set_cons_zero, List.set_cons_succ, Option.some.injEq, V.int.injEq, V.bl.injEq, V.ref.injEq, V.ty.injEq, List.cons.injEq, and_true, true_and, exists_eq_left, exists_eq_left', exists_and_left, exists_and_right, exists_eq, exists_eq', and_assoc, Nat.reduceAdd, Nat.reduceSub, Bool.not_true, Bool.not_false, Bool.false_eq_true, if_true, if_false, reduceIte, Nat.zero_add, decide_true, decide_false, selC, comp_K, tYes, Option.join_some, rIxTH, rIxLH, rLenH, rIsiF, at0, at1, at2, at3, at4, at5, at6, at7, at8, HO.tup.injEq, HO.lst.injEq, reduceCtorEq, false_or, or_false, tyF_non, tyF_bl, tyF_int, tyF_str, exists_const, Int.reduceAdd, Int.reduceMul, Int.reduceSub, gSub, rSetL, tSl, tPart, tNoPart, rSlH, upd_same, upd_upd, rIntB, rListH, tBM, tBM0, rAppend, rClear, tPar, gTupH, hq3]
      generalize (i : Int) % 5 = x at *
      generalize (i : Int) / 5 = y at *
      obtain ⟨dx, dy⟩ := d
      dsimp only at *
      refine ⟨l, bs, x, y, rfl, hb.same g3, fun H4 g4 => ?_⟩
      have hD4 := g4 _ _ hD3
      have hL4 := g4 _ _ hL3
      have t4 := ts_trans t3 (ts_same g4)
      have g04 := g3.trans g4
      have hw4 := hw3.ts w4h_ts (ts_same g4)
      have wno : ¬ (smB (inB bs) x y = false ∧ lvB (inB bs) x y dx dy = true) → wayL (inB bs) ⟨x, y, dx, dy⟩ = [] := fun n => if_neg n
      have wyes : (smB (inB bs) x y = false ∧ lvB (inB bs) x y dx dy = true) → wayL (inB bs) ⟨x, y, dx, dy⟩ = [⟨x, y, x + (farN (inB bs) x y dx dy 6 1 : Nat) * dx, y + (farN (inB bs) x y dx dy 6 1 : Nat) * dy⟩] := fun n => if_pos n
      refine ⟨_, rfl, ite2 (fun c1 => ⟨l, bs, x, y, dx, dy, rfl, hb.same g04, _, rfl, ite2 (fun c2 => ?_) (fun c2 => ?_)⟩) (fun c1 => ?_)⟩
      · have c1 : smB (inB bs) x y = false := by simpa using c1
        rw [wyes ⟨c1, c2⟩]
        have ld : dx.natAbs < 2 ^ 3 ∧ dy.natAbs < 2 ^ 3 := by
          unfold dirs at dm
          simp only [List.mem_cons, List.not_mem_nil, or_false, Prod.mk.injEq] at dm
          rcases dm with ⟨e1, e2⟩ | ⟨e1, e2⟩ | ⟨e1, e2⟩ | ⟨e1, e2⟩ <;> rw [e1, e2] <;> decide
        have e8 : (2 : Nat) ^ 3 = 8 := rfl
        refine while_at (fun σ H' => Same H4 H' ∧ ∃ f : Nat, σ = [some (V.ref l), some (V.ref D), some (V.int i), some (V.int x), some (V.int y), some (V.int dx), some (V.int dy), some (V.int f)] ∧ 1 ≤ f ∧ f ≤ 5 ∧ farN (inB bs) x y dx dy (7 - f) f = farN (inB bs) x y dx dy 6 1) (fun σ _ => (7 - getI σ 7).toNat) ⟨.refl _, 1, rfl, by omega, by omega, rfl⟩ ?_
        rintro σ H5 ⟨g5, f, rfl, f1, f5, ef⟩
        have lf : ((f : Nat) : Int).natAbs < 2 ^ 3 := by omega
        simp only [tSeq, tNext, tRet, tRetN, tIfS, tAsg, gName, tDrop, tVar, tC, tOp, tUn, rI, rI0, rU, rEq, rNe, tTest, tB, tNot, tAnd, tOr, tAndV, tOrV, tNotV, tIf, tCB, tCall, tNil, tCons, tTup, tLst, gTup, gCons, gNil, L2.start, rIsi, rIxT, rIxL, cx_K, tyN_non, tyN_bl, tyN_int, tyN_str, isi_ii, isi_ib, isi_it, isi_il, isi_bi, isi_bb, isi_tt, isi_ni, isi_si, isi_ti, isi_li, isi_di, isi_ll, scal_ii, scal_bb, sz0, sz1, sz2, sz3, sz4, List.map_cons, List.map_nil, List.length_cons, List.length_nil, List.replicate, List.cons_append, List.nil_append, List.append_nil, List.getElem?_cons_zero, List.getElem?_cons_succ, List.set_cons_zero, List.set_cons_succ, Option.some.injEq, V.int.injEq, V.bl.injEq, V.ref.injEq, V.ty.injEq, List.cons.injEq, and_true, true_and, exists_eq_left, exists_eq_left', exists_and_left, exists_and_right, exists_eq, exists_eq', and_assoc, Nat.reduceAdd, Nat.reduceSub, Bool.not_true, Bool.not_false, Bool.false_eq_true, if_true, if_false, reduceIte, Nat.zero_add, decide_true, decide_false, selC, comp_K, tYes, Option.join_some, rIxTH, rIxLH, rLenH, rIsiF, at0, at1, at2, at3, at4, at5, at6, at7, at8, HO.tup.injEq, HO.lst.injEq, reduceCtorEq, false_or, or_false, tyF_non, tyF_bl, tyF_int, tyF_str, exists_const, Int.reduceAdd, Int.reduceMul, Int.reduceSub, gSub, rSetL, tSl, tPart, tNoPart, rSlH, upd_same, upd_upd, rIntB, rListH, tBM, tBM0, rAppend, rClear, tPar, gTupH]
        refine ⟨cbig lf ld.1, cbig lf ld.2, l, bs, _, _, rfl, hb.same (g04.trans g5), fun H6 g6 => ⟨_, rfl, ite2 (fun c => ?_) (fun c => ?_)⟩⟩
        · have f4 := far_lt (inB_in bs) dm hx hy c
          refine ⟨fun σ' H' => (Same H4 H' ∧ ∃ f : Nat, σ' = [some (V.ref l), some (V.ref D), some (V.int i), some (V.int x), some (V.int y), some (V.int dx), some (V.int dy), some (V.int f)] ∧ 1 ≤ f ∧ f ≤ 5 ∧ farN (inB bs) x y dx dy (7 - f) f = farN (inB bs) x y dx dy 6 1) ∧ (7 - getI σ' 7).toNat < (7 - (f : Int)).toNat, fun σ' H' ⟨p, l⟩ => ⟨_, l, rfl, p⟩, ?_⟩
          have ev : (V.int ((f : Int) + 1)) = V.int ((f + 1 : Nat) : Int) := by rw [Int.natCast_add]; rfl
          exact ⟨⟨g5.trans g6, f + 1, by rw [ev], by omega, by omega, by rw [← ef]; exact (far_true (by omega) c).symm⟩, by show (7 - ((f : Int) + 1)).toNat < _; omega⟩
        · have c := (Bool.not_eq_true _).mp c
          have efar : farN (inB bs) x y dx dy 6 1 = f := by rw [← ef]; exact far_false (by omega) c
          have hD6 := g6 _ _ (g5 _ _ hD4)
          have hL6 := g6 _ _ (g5 _ _ hL4)
          have g56 := g5.trans g6
          refine ⟨tyV_of hD6, cbig lf ld.1, cbig lf ld.2, fun t ht => ?_⟩
          have g7 := same_new ht (HO.tup [V.int x, V.int y, V.int (x + f * dx), V.int (y + f * dy)])
          have h7 : upd H6 t (HO.tup [V.int x, V.int y, V.int (x + f * dx), V.int (y + f * dy)]) t = some (HO.tup [V.int x, V.int y, V.int (x + f * dx), V.int (y + f * dy)]) := upd_same
          generalize upd H6 t (HO.tup [V.int x, V.int y, V.int (x + f * dx), V.int (y + f * dy)]) = H8 at *
          have g48 := g56.trans g7
          have hD8 := g7 _ _ hD6
          have w8 : W4H H8 t ⟨x, y, x + (farN (inB bs) x y dx dy 6 1 : Nat) * dx, y + (farN (inB bs) x y dx dy 6 1 : Nat) * dy⟩ := by rw [efar]; exact h7
          refine ⟨zs, hD8, Nat.lt_of_le_of_lt (show zs.length ≤ 200 by omega) (by decide), same_put (g04.trans g48) hD, ts_trans t4 (ts_trans (ts_same g48) (ts_put hD8)), by rw [upd_ne nL]; exact g7 _ _ hL6, by rw [List.length_append, List.length_singleton]; omega, ?_⟩
          exact ((hw4.ts w4h_ts (ts_same g48)).snoc w8).ts w4h_ts (ts_put hD8)
      · rw [wno fun z => c2 z.2, List.append_nil]
        exact ⟨g04, t4, hL4, zs, hD4, by omega, hw4⟩
      · rw [wno fun z => c1 (by rw [z.1]; rfl), List.append_nil]
        exact ⟨g04, t4, hL4, zs, hD4, by omega, hw4⟩
    · rintro σ H3 ⟨g3, t3, hL3, zs, o4, o5, o6, rfl, hD3, hz3, hw3⟩
      refine ⟨g3, ⟨_, _, _, _, _, _, rfl⟩, zs, hD3, by simp only [List.length_cons, List.length_nil] at hz3; omega, ?_⟩
      rw [idxK_succ, List.flatMap_append]
      exact hw3
  · rintro σ H2 ⟨g2, zs, o1, o2, o3, o4, o5, o6, rfl, hD2, hz, hw⟩
    simp only [tSeq, tNext, tRet, tRetN, tIfS, tAsg, gName, tDrop, tVar, tC, tOp, tUn, rI, rI0, rU, rEq, rNe, tTest, tB, tNot, tAnd, tOr, tAndV, tOrV, tNotV, tIf, tCB, tCall, tNil, tCons, tTup, tLst, gTup, gCons, gNil, L2.start, rIsi, rIxT, rIxL, cx_K, tyN_non, tyN_bl, tyN_int, tyN_str, isi_ii, isi_ib, isi_it, isi_il, isi_bi, isi_bb, isi_tt, isi_ni, isi_si, isi_ti, isi_li, isi_di, isi_ll, scal_ii, scal_bb, sz0, sz1, sz2, sz3, sz4, List.map_cons, List.map_nil, List.length_cons, List.length_nil, List.replicate, List.cons_append, List.nil_append, List.append_nil, List.getElem?_cons_zero, List.getElem?_cons_succ, List.set_cons_zero, List.set_cons_succ, Option.some.injEq, V.int.injEq, V.bl.injEq, V.ref.injEq, V.ty.injEq, List.cons.injEq, and_true, true_and, exists_eq_left, exists_eq_left', exists_and_left, exists_and_right, exists_eq, exists_eq', and_assoc, Nat.reduceAdd, Nat.reduceSub, Bool.not_true, Bool.not_false, Bool.false_eq_true, if_true, if_false, reduceIte, Nat.zero_add, decide_true, decide_false, selC, comp_K, tYes, Option.join_some, rIxTH, rIxLH, rLenH, rIsiF, at0, at1, at2, at3, at4, at5, at6, at7, at8, HO.tup.injEq, HO.lst.injEq, reduceCtorEq, false_or, or_false, tyF_non, tyF_bl, tyF_int, tyF_str, exists_const, Int.reduceAdd, Int.reduceMul, Int.reduceSub, gSub, rSetL, tSl, tPart, tNoPart, rSlH, upd_same, upd_upd, rIntB, rListH, tBM, tBM0, rAppend, rClear, tPar, gTupH]
    exact k D zs H2 hD g2 hD2 hw
def Q4H (H : Hp) (p : Addr) (q : Int × Int × Int × Int) : Prop := H p = some (.tup [.int q.1, .int q.2.1, .int q.2.2.1, .int q.2.2.2])
theorem q4h_ts : ∀ (H H' : Hp) (p : Addr) (q : Int × Int × Int × Int), TupSame H H' → Q4H H p q → Q4H H' p q := fun _ _ _ _ g h => g _ _ h
theorem at_far {m : Int} (h0 : 0 ≤ m) (h5 : m < 5) : ∃ f : Int, atI [V.int 1, V.int 1, V.int 1, V.int 1000003, V.int (10 ^ Int.toNat 18 + 9)] m = some (.int f) ∧ 0 ≤ f ∧ f ≤ 10 ^ 18 + 9 := by
  rcases (by omega : m = 0 ∨ m = 1 ∨ m = 2 ∨ m = 3 ∨ m = 4) with rfl | rfl | rfl | rfl | rfl
  · exact ⟨_, at0, by decide, by decide⟩
  · exact ⟨_, at1, by decide, by decide⟩
  · exact ⟨_, at2, by decide, by decide⟩
  · exact ⟨_, at3, by decide, by decide⟩
  · exact ⟨_, at4, by decide, by decide⟩
theorem at_m {m : Int} (h0 : 0 ≤ m) (h5 : m < 5) : ∃ f : Int, atI [V.int 1, V.int 1, V.int 2, V.int 3, V.int 6] m = some (.int f) ∧ (f = 1 ∨ f = 2 ∨ f = 3 ∨ f = 6) := by
  rcases (by omega : m = 0 ∨ m = 1 ∨ m = 2 ∨ m = 3 ∨ m = 4) with rfl | rfl | rfl | rfl | rfl
  · exact ⟨_, at0, by decide⟩
  · exact ⟨_, at1, by decide⟩
  · exact ⟨_, at2, by decide⟩
  · exact ⟨_, at3, by decide⟩
  · exact ⟨_, at4, by decide⟩
theorem ok_law_map (T : Txt K mg ad fd) : FnOk P w K mg base CX0 1 (ad 26) (fd 26) ["_law_cell"] sp_map := by
  refine T.law_map.fn.ok sc_law_map (fun vs H Q E h => ?_) (fun cdv A outer s H vs Q E hr h => ?_)
  · obtain ⟨c, rfl, _⟩ := h
    rfl
  obtain ⟨c, rfl, k⟩ := h
  obtain ⟨tl, htl, hk⟩ : ∃ tl, PSs (cxOf CX0 P w K mg base ["_law_cell", "_law_some", "_law_far", "_law_right", "_law_high"] "_law_map" (defScope s_law_map) (ad 26) cdv A outer s H E).nox ((defBody s_law_map).drop 2) tl ∧ ∀ (S : Addr) (ys : List V) (H1 : Hp), Same H H1 → H1 S = some (.lst ys) → LR Q4H H1 ys quads →
      tl { nx := fun _ H' => Q .non H', rt := Q } [some (.int c), some (.ref S), none, none, none] H1 := by
    have qpss4 := @pss4
    have qps_set := @ps_set
    have qpe_ix := @pe_ix
    have qpe_lst := @pe_lst
    have qpa5 := @pa5
    have qpe_int := @pe_int
    have qpe_op := @pe_op
    have qpv := @pv
    have qps_ret := @ps_ret
    have qpe_tup := @pe_tup
    have qpa3 := @pa3
    generalize @L2.PE = QE, @L2.PT = QT, @L2.PW = QW, @L2.PA = QA, @L2.PS = QS, @L2.PSs = QSs, @L2.PG = QG, @L2.PGs = QGs, @L2.PI = QI, @L2.PO = QO, @L2.PIf = QIf at qpss4 qps_set qpe_ix qpe_lst qpa5 qpe_int qpe_op qpv qps_ret qpe_tup qpa3 ⊢
    refine ⟨_,
    (qpss4
      (qps_set (i := 2) sc_law_map.nd rfl (Or.inl rfl) (qpe_ix ix_listH (qpe_lst (qpa5 qpe_int ns_Constant qpe_int ns_Constant qpe_int ns_Constant qpe_int ns_Constant (qpe_op op_add (qpe_op op_pow qpe_int qpe_int) qpe_int) ns_BinOp)) (qpe_op op_mod (qpe_op op_fdiv (qpv 0) qpe_int) qpe_int) (fun _ _ => rfl)))
      (qps_set (i := 3) sc_law_map.nd rfl (Or.inl rfl) (qpe_op op_mulB (qpe_op op_sub (qpe_op op_mod (qpe_op op_fdiv (qpv 0) qpe_int) qpe_int) qpe_int) (qpv 2)))
      (qps_set (i := 4) sc_law_map.nd rfl (Or.inl rfl) (qpe_op op_mulB (qpe_op op_sub (qpe_op op_mod (qpe_op op_fdiv (qpv 0) qpe_int) qpe_int) qpe_int) (qpv 2)))
      (qps_ret (qpe_op op_catT (qpe_ix ix_listH (qpv 1) (qpe_op op_mod (qpv 0) qpe_int) (fun _ _ => rfl)) (qpe_tup (qpa3 (qpv 3) ns_Name (qpv 4) ns_Name (qpe_ix ix_listH (qpe_lst (qpa5 qpe_int ns_Constant qpe_int ns_Constant qpe_int ns_Constant qpe_int ns_Constant qpe_int ns_Constant)) (qpe_op op_mod (qpe_op op_fdiv (qpv 0) qpe_int) qpe_int) (fun _ _ => rfl)) ns_Subscript)))))
      , fun S ys H1 g1 hS hq => ?_⟩
    clear  qpss4 qps_set qpe_ix qpe_lst qpa5 qpe_int qpe_op qpv qps_ret qpe_tup qpa3 QE QT QW QA QS QSs QG QGs QI QO QIf
    simp only [tSeq, tNext, tRet, tRetN, tIfS, tAsg, gName, tDrop, tVar, tC, tOp, tUn, rI, rI0, rU, rEq, rNe, tTest, tB, tNot, tAnd, tOr, tAndV, tOrV, tNotV, tIf, tCB, tCall, tNil, tCons, tTup, tLst, gTup, gCons, gNil, L2.start, rIsi, rIxT, rIxL, cx_K, tyN_non, tyN_bl, tyN_int, tyN_str, isi_ii, isi_ib, isi_it, isi_il, isi_bi, isi_bb, isi_tt, isi_ni, isi_si, isi_ti, isi_li, isi_di, isi_ll, scal_ii, scal_bb, sz0, sz1, sz2, sz3, sz4, List.map_cons, List.map_nil, List.length_cons, List.length_nil, List.replicate, List.cons_append, List.nil_append, List.append_nil, List.getElem?_cons_zero, List.getElem?_cons_succ, List.set_cons_zero, List.set_cons_succ, Option.some.injEq, V.int.injEq, V.bl.injEq, V.ref.injEq, V.ty.injEq, List.cons.injEq, and_true, true_and, exists_eq_left, exists_eq_left', exists_and_left, exists_and_right, exists_eq, exists_eq', and_assoc, Nat.reduceAdd, Nat.reduceSub, Bool.not_true, Bool.not_false, Bool.false_eq_true, if_true, if_false, reduceIte, Nat.zero_add, decide_true, decide_false, selC, comp_K, tYes, Option.join_some, rIxTH, rIxLH, rLenH, rIsiF, at0, at1, at2, at3, at4, at5, at6, at7, at8, HO.tup.injEq, HO.lst.injEq, reduceCtorEq, false_or, or_false, tyF_non, tyF_bl, tyF_int, tyF_str, exists_const, Int.reduceAdd, Int.reduceMul, Int.reduceSub, gSub, rSetL, tSl, tPart, tNoPart, rSlH, upd_same, upd_upd, rIntB, rListH, tBM, tBM0, rAppend, rClear, tPar, gTupH, hS]
    have e5 : (5 : Nat) ≤ sizeLine := by decide
    obtain ⟨f, hf, f0, f1⟩ := at_far (Int.emod_nonneg (c / 8) (show (5 : Int) ≠ 0 by decide)) (Int.emod_lt_of_pos (c / 8) (show (0 : Int) < 5 by decide))
    obtain ⟨m, hm, m1⟩ := at_m (Int.emod_nonneg (c / 6760) (show (5 : Int) ≠ 0 by decide)) (Int.emod_lt_of_pos (c / 6760) (show (0 : Int) < 5 by decide))
    have e64 : (2 : Nat) ^ 64 = 18446744073709551616 := rfl
    have e18 : (10 : Int) ^ 18 = 1000000000000000000 := rfl
    have e4 : (2 : Nat) ^ 4 = 16 := rfl
    have lf : f.natAbs < 2 ^ 64 := by omega
    have r1 : (c / 40 % 13 - 6).natAbs < 2 ^ 4 := by omega
    have r2 : (c / 520 % 13 - 6).natAbs < 2 ^ 4 := by omega
    refine ⟨⟨by decide, by decide, by decide⟩, e5, fun p hp => ⟨⟨by decide, by decide⟩, by decide, _, hf, ⟨by decide, by decide⟩, by decide, f, rfl, cbig r1 lf, ⟨by decide, by decide⟩, by decide, f, rfl, cbig r2 lf, by decide, ?_⟩⟩
    have gp := same_new hp (HO.lst [V.int 1, V.int 1, V.int 1, V.int 1000003, V.int (10 ^ Int.toNat 18 + 9)])
    have hS2 := gp _ _ hS
    have hq2 := hq.ts q4h_ts (ts_same gp)
    generalize upd H1 p (HO.lst [V.int 1, V.int 1, V.int 1, V.int 1000003, V.int (10 ^ Int.toNat 18 + 9)]) = H2 at *
    have c8 : c % 8 = (((c % 8).toNat : Nat) : Int) := by omega
    have yl : ys.length = 8 := hq.1
    obtain ⟨t, q, et, eq, ht⟩ := hq2.at (j := (c % 8).toNat) (by omega)
    have ea := atI_nat et
    rw [← c8] at ea
    refine ⟨ys, hS2, _, ea, e5, fun p1 hp1 => ⟨⟨by decide, by decide⟩, by decide, _, hm, fun p2 hp2 => ?_⟩⟩
    have g1' := same_new hp1 (HO.lst [V.int 1, V.int 1, V.int 2, V.int 3, V.int 6])
    have ht2 := q4h_ts _ _ _ _ (ts_same g1') ht
    generalize upd H2 p1 (HO.lst [V.int 1, V.int 1, V.int 2, V.int 3, V.int 6]) = H3 at *
    have g2' := same_new hp2 (HO.tup [V.int ((c / 40 % 13 - 6) * f), V.int ((c / 520 % 13 - 6) * f), V.int m])
    have h2 : upd H3 p2 (HO.tup [V.int ((c / 40 % 13 - 6) * f), V.int ((c / 520 % 13 - 6) * f), V.int m]) p2 = some (HO.tup [V.int ((c / 40 % 13 - 6) * f), V.int ((c / 520 % 13 - 6) * f), V.int m]) := upd_same
    have ht3 := q4h_ts _ _ _ _ (ts_same g2') ht2
    generalize upd H3 p2 (HO.tup [V.int ((c / 40 % 13 - 6) * f), V.int ((c / 520 % 13 - 6) * f), V.int m]) = H4 at *
    refine ⟨t, p2, _, _, rfl, rfl, .of ht3, .of h2, by simp, (show (7 : Nat) ≤ sizeLine from by decide), (fun z => (nomatch z)), fun _ p3 hp3 => ?_⟩
    have sz : ∀ r : Int, r.natAbs < 2 ^ 4 → (r * f).natAbs < 2 ^ 70 := fun r hr => lt_mono (mul_lt hr lf) (by decide)
    exact k p3 ⟨q.1, q.2.1, q.2.2.1, q.2.2.2, (c / 40 % 13 - 6) * f, (c / 520 % 13 - 6) * f, m⟩ _ (g1.trans (gp.trans (g1'.trans (g2'.trans (same_new hp3 _))))) ⟨upd_same, ⟨List.mem_of_getElem? eq, m1, sz _ r1, sz _ r2⟩⟩
  have qpss_cons := @pss_cons
  have qps_set := @ps_set
  have qpe_lst := @pe_lst
  have qpa4 := @pa4
  have qpe_tup := @pe_tup
  have qpe_int := @pe_int
  have qpe_un := @pe_un
  have qpe_op := @pe_op
  have qpv := @pv
  generalize @L2.PE = QE, @L2.PT = QT, @L2.PW = QW, @L2.PA = QA, @L2.PS = QS, @L2.PSs = QSs, @L2.PG = QG, @L2.PGs = QGs, @L2.PI = QI, @L2.PO = QO, @L2.PIf = QIf at qpss_cons qps_set qpe_lst qpa4 qpe_tup qpe_int qpe_un qpe_op qpv htl ⊢
  refine ⟨_,
    (qpss_cons (qps_set (i := 1) sc_law_map.nd rfl (Or.inl rfl) (qpe_lst (qpa4 (qpe_tup (qpa4 qpe_int ns_Constant qpe_int ns_Constant qpe_int ns_Constant qpe_int ns_Constant)) ns_Tuple (qpe_tup (qpa4 qpe_int ns_Constant qpe_int ns_Constant qpe_int ns_Constant qpe_int ns_Constant)) ns_Tuple (qpe_tup (qpa4 qpe_int ns_Constant qpe_int ns_Constant (qpe_un un_neg qpe_int) ns_UnaryOp qpe_int ns_Constant)) ns_Tuple (qpe_tup (qpa4 qpe_int ns_Constant (qpe_un un_neg qpe_int) ns_UnaryOp qpe_int ns_Constant qpe_int ns_Constant)) ns_Tuple)))
      (qpss_cons (qps_set (i := 1) sc_law_map.nd rfl (Or.inl rfl) (qpe_op op_cat (qpv 1) (qpe_lst (qpa4 (qpe_tup (qpa4 qpe_int ns_Constant qpe_int ns_Constant qpe_int ns_Constant qpe_int ns_Constant)) ns_Tuple (qpe_tup (qpa4 qpe_int ns_Constant (qpe_un un_neg qpe_int) ns_UnaryOp qpe_int ns_Constant qpe_int ns_Constant)) ns_Tuple (qpe_tup (qpa4 qpe_int ns_Constant qpe_int ns_Constant qpe_int ns_Constant qpe_int ns_Constant)) ns_Tuple (qpe_tup (qpa4 (qpe_un un_neg qpe_int) ns_UnaryOp qpe_int ns_Constant qpe_int ns_Constant (qpe_un un_neg qpe_int) ns_UnaryOp)) ns_Tuple))))
      htl))
    , ?_⟩
  clear htl qpss_cons qps_set qpe_lst qpa4 qpe_tup qpe_int qpe_un qpe_op qpv QE QT QW QA QS QSs QG QGs QI QO QIf
  simp only [tSeq, tNext, tRet, tRetN, tIfS, tAsg, gName, tDrop, tVar, tC, tOp, tUn, rI, rI0, rU, rEq, rNe, tTest, tB, tNot, tAnd, tOr, tAndV, tOrV, tNotV, tIf, tCB, tCall, tNil, tCons, tTup, tLst, gTup, gCons, gNil, L2.start, rIsi, rIxT, rIxL, cx_K, tyN_non, tyN_bl, tyN_int, tyN_str, isi_ii, isi_ib, isi_it, isi_il, isi_bi, isi_bb, isi_tt, isi_ni, isi_si, isi_ti, isi_li, isi_di, isi_ll, scal_ii, scal_bb, sz0, sz1, sz2, sz3, sz4, List.map_cons, List.map_nil, List.length_cons, List.length_nil, List.replicate, List.cons_append, List.nil_append, List.append_nil, List.getElem?_cons_zero, List.getElem?_cons_succ, List.set_cons_zero, List.set_cons_succ, Option.some.injEq, V.int.injEq, V.bl.injEq, V.ref.injEq, V.ty.injEq, List.cons.injEq, and_true, true_and, exists_eq_left, exists_eq_left', exists_and_left, exists_and_right, exists_eq, exists_eq', and_assoc, Nat.reduceAdd, Nat.reduceSub, Bool.not_true, Bool.not_false, Bool.false_eq_true, if_true, if_false, reduceIte, Nat.zero_add, decide_true, decide_false, selC, comp_K, tYes, Option.join_some, rIxTH, rIxLH, rLenH, rIsiF, at0, at1, at2, at3, at4, at5, at6, at7, at8, HO.tup.injEq, HO.lst.injEq, reduceCtorEq, false_or, or_false, tyF_non, tyF_bl, tyF_int, tyF_str, exists_const, Int.reduceAdd, Int.reduceMul, Int.reduceSub, gSub, rSetL, tSl, tPart, tNoPart, rSlH, upd_same, upd_upd, rIntB, rListH, tBM, tBM0, rAppend, rClear, tPar, gTupH]
  have z0_0 : LR Q4H H [] [] := .nil
  intro p1 hp1
  have s1 := same_new hp1 (HO.tup [V.int 1, V.int 0, V.int 0, V.int 1])
  have u1 : upd H p1 (HO.tup [V.int 1, V.int 0, V.int 0, V.int 1]) p1 = some (HO.tup [V.int 1, V.int 0, V.int 0, V.int 1]) := upd_same
  generalize upd H p1 (HO.tup [V.int 1, V.int 0, V.int 0, V.int 1]) = K1 at *
  have z0_1 := (z0_0.ts q4h_ts (ts_same s1)).snoc (p := p1) (a := (1, 0, 0, 1)) u1
  intro p2 hp2
  have s2 := same_new hp2 (HO.tup [V.int 2, V.int 1, V.int 0, V.int 1])
  have u2 : upd K1 p2 (HO.tup [V.int 2, V.int 1, V.int 0, V.int 1]) p2 = some (HO.tup [V.int 2, V.int 1, V.int 0, V.int 1]) := upd_same
  generalize upd K1 p2 (HO.tup [V.int 2, V.int 1, V.int 0, V.int 1]) = K2 at *
  have z0_2 := (z0_1.ts q4h_ts (ts_same s2)).snoc (p := p2) (a := (2, 1, 0, 1)) u2
  intro p3 hp3
  have s3 := same_new hp3 (HO.tup [V.int 1, V.int 1, V.int (-1), V.int 1])
  have u3 : upd K2 p3 (HO.tup [V.int 1, V.int 1, V.int (-1), V.int 1]) p3 = some (HO.tup [V.int 1, V.int 1, V.int (-1), V.int 1]) := upd_same
  generalize upd K2 p3 (HO.tup [V.int 1, V.int 1, V.int (-1), V.int 1]) = K3 at *
  have z0_3 := (z0_2.ts q4h_ts (ts_same s3)).snoc (p := p3) (a := (1, 1, -1, 1)) u3
  intro p4 hp4
  have s4 := same_new hp4 (HO.tup [V.int 3, V.int (-1), V.int 1, V.int 2])
  have u4 : upd K3 p4 (HO.tup [V.int 3, V.int (-1), V.int 1, V.int 2]) p4 = some (HO.tup [V.int 3, V.int (-1), V.int 1, V.int 2]) := upd_same
  generalize upd K3 p4 (HO.tup [V.int 3, V.int (-1), V.int 1, V.int 2]) = K4 at *
  have z0_4 := (z0_3.ts q4h_ts (ts_same s4)).snoc (p := p4) (a := (3, -1, 1, 2)) u4
  intro L0 hL0
  have s5 := same_new hL0 (HO.lst [V.ref p1, V.ref p2, V.ref p3, V.ref p4])
  have u5 : upd K4 L0 (HO.lst [V.ref p1, V.ref p2, V.ref p3, V.ref p4]) L0 = some (HO.lst [V.ref p1, V.ref p2, V.ref p3, V.ref p4]) := upd_same
  generalize upd K4 L0 (HO.lst [V.ref p1, V.ref p2, V.ref p3, V.ref p4]) = K5 at *
  have w_5 := z0_4.ts q4h_ts (ts_same s5)
  have v_5 := u5
  have z1_0 : LR Q4H K5 [] [] := .nil
  intro p5 hp5
  have s6 := same_new hp5 (HO.tup [V.int 1, V.int 2, V.int 0, V.int 1])
  have u6 : upd K5 p5 (HO.tup [V.int 1, V.int 2, V.int 0, V.int 1]) p5 = some (HO.tup [V.int 1, V.int 2, V.int 0, V.int 1]) := upd_same
  generalize upd K5 p5 (HO.tup [V.int 1, V.int 2, V.int 0, V.int 1]) = K6 at *
  have z1_1 := (z1_0.ts q4h_ts (ts_same s6)).snoc (p := p5) (a := (1, 2, 0, 1)) u6
  have w_6 := w_5.ts q4h_ts (ts_same s6)
  have v_6 := s6 _ _ v_5
  intro p6 hp6
  have s7 := same_new hp6 (HO.tup [V.int 0, V.int (-1), V.int 1, V.int 0])
  have u7 : upd K6 p6 (HO.tup [V.int 0, V.int (-1), V.int 1, V.int 0]) p6 = some (HO.tup [V.int 0, V.int (-1), V.int 1, V.int 0]) := upd_same
  generalize upd K6 p6 (HO.tup [V.int 0, V.int (-1), V.int 1, V.int 0]) = K7 at *
  have z1_2 := (z1_1.ts q4h_ts (ts_same s7)).snoc (p := p6) (a := (0, -1, 1, 0)) u7
  have w_7 := w_6.ts q4h_ts (ts_same s7)
  have v_7 := s7 _ _ v_6
  intro p7 hp7
  have s8 := same_new hp7 (HO.tup [V.int 5, V.int 3, V.int 3, V.int 2])
  have u8 : upd K7 p7 (HO.tup [V.int 5, V.int 3, V.int 3, V.int 2]) p7 = some (HO.tup [V.int 5, V.int 3, V.int 3, V.int 2]) := upd_same
  generalize upd K7 p7 (HO.tup [V.int 5, V.int 3, V.int 3, V.int 2]) = K8 at *
  have z1_3 := (z1_2.ts q4h_ts (ts_same s8)).snoc (p := p7) (a := (5, 3, 3, 2)) u8
  have w_8 := w_7.ts q4h_ts (ts_same s8)
  have v_8 := s8 _ _ v_7
  intro p8 hp8
  have s9 := same_new hp8 (HO.tup [V.int (-1), V.int 0, V.int 2, V.int (-3)])
  have u9 : upd K8 p8 (HO.tup [V.int (-1), V.int 0, V.int 2, V.int (-3)]) p8 = some (HO.tup [V.int (-1), V.int 0, V.int 2, V.int (-3)]) := upd_same
  generalize upd K8 p8 (HO.tup [V.int (-1), V.int 0, V.int 2, V.int (-3)]) = K9 at *
  have z1_4 := (z1_3.ts q4h_ts (ts_same s9)).snoc (p := p8) (a := (-1, 0, 2, -3)) u9
  have w_9 := w_8.ts q4h_ts (ts_same s9)
  have v_9 := s9 _ _ v_8
  intro L1 hL1
  have s10 := same_new hL1 (HO.lst [V.ref p5, V.ref p6, V.ref p7, V.ref p8])
  have u10 : upd K9 L1 (HO.lst [V.ref p5, V.ref p6, V.ref p7, V.ref p8]) L1 = some (HO.lst [V.ref p5, V.ref p6, V.ref p7, V.ref p8]) := upd_same
  generalize upd K9 L1 (HO.lst [V.ref p5, V.ref p6, V.ref p7, V.ref p8]) = K10 at *
  have w_10 := w_9.ts q4h_ts (ts_same s10)
  have v_10 := s10 _ _ v_9
  have y := z1_4.ts q4h_ts (ts_same s10)
  have gg := s1.trans (s2.trans (s3.trans (s4.trans (s5.trans (s6.trans (s7.trans (s8.trans (s9.trans (s10)))))))))
  refine ⟨L0, L1, _, _, rfl, rfl, v_10, u10, (show (8 : Nat) ≤ sizeLine from by decide), fun S hS => hk S _ _ (gg.trans (same_new hS _)) upd_same ((w_10.app y).ts q4h_ts (ts_same (same_new hS _)))⟩
def UF (M : M7) (H : Hp) (p : Addr) (w : W4) : Prop := StV H p (mkD (spQ M w.x0 w.y0 1) (spQ M w.x1 w.y1 1))
theorem uf_ts {M : M7} : ∀ (H H' : Hp) (p : Addr) (w : W4), TupSame H H' → UF M H p w → UF M H' p w := fun _ _ _ _ g h => h.ts g
def LF (M : M7) (H : Hp) (p : Addr) (w : W4) : Prop := StV H p (lfQ M w)
theorem lf_ts {M : M7} : ∀ (H H' : Hp) (p : Addr) (w : W4), TupSame H H' → LF M H p w → LF M H' p w := fun _ _ _ _ g h => h.ts g
theorem uf_fe {M : M7} {H : Hp} {p : Addr} {w : W4} (h : UF M H p w) : Fe H (.ref p) := by
  obtain ⟨a, b, h1, h2, h3⟩ := h
  exact ⟨p, a, b, _, _, _, _, _, _, rfl, h1, h2.1, h3.1⟩
theorem bd_of {x y w : Int} (h : x.natAbs < 2 ^ 80 ∧ y.natAbs < 2 ^ 80 ∧ w.natAbs < 2 ^ 80) : Bd3 1000 x y w := ⟨lt_mono h.1 (by decide), lt_mono h.2.1 (by decide), lt_mono h.2.2 (by decide)⟩
theorem ok_law_land (T : Txt K mg ad fd) : FnOk P w K mg base CX0 5 (ad 29) (fd 29) ["_law_held_here", "_law_map_of"] sp_land := by
  refine T.law_land.fn.ok sc_law_land (fun vs H Q E h => ?_) (fun cdv A outer s H vs Q E hr h => ?_)
  · obtain ⟨l, p, bs, M, rfl, _⟩ := h
    rfl
  obtain ⟨l, p, bs, M, rfl, hb, hp, k⟩ := h
  have qpss3 := @pss3
  have qps_set := @ps_set
  have qpe_lst := @pe_lst
  have qpa_nil := @pa_nil
  have qps_for := @ps_for
  have qpi_list := @pi_list
  have qpe_call := @pe_call
  have qpa1 := @pa1
  have qpv := @pv
  have qpg_name := @pg_name
  have qpss_one := @pss_one
  have qps_expr := @ps_expr
  have qpe_bm := @pe_bm
  have qpe_tup := @pe_tup
  have qpa2 := @pa2
  have qpa4 := @pa4
  have qpe_ix := @pe_ix
  have qpe_int := @pe_int
  have qps_ret := @ps_ret
  have qpe_comp := @pe_comp
  unfold L2.CompBody at qpe_comp
  have qpe_callB := @pe_callB
  have qpg_tupH := @pg_tupH
  have qpgs_cons := @pgs_cons
  have qpgs_nil := @pgs_nil
  have qpif_nil := @pif_nil
  generalize @L2.PE = QE, @L2.PT = QT, @L2.PW = QW, @L2.PA = QA, @L2.PS = QS, @L2.PSs = QSs, @L2.PG = QG, @L2.PGs = QGs, @L2.PI = QI, @L2.PO = QO, @L2.PIf = QIf at qpss3 qps_set qpe_lst qpa_nil qps_for qpi_list qpe_call qpa1 qpv qpg_name qpss_one qps_expr qpe_bm qpe_tup qpa2 qpa4 qpe_ix qpe_int qps_ret qpe_comp qpe_callB qpg_tupH qpgs_cons qpgs_nil qpif_nil ⊢
  refine ⟨_,
    (qpss3
      (qps_set (i := 2) sc_law_land.nd rfl (Or.inl rfl) (qpe_lst qpa_nil))
      (qps_for PassesOwn.never rfl (qpi_list (qpe_call (ok_law_ways T) (hr.mono (by decide)) rfl T.law_ways.mg T.law_ways.fn.kp T.law_ways.bn .nil pass0 (qpa1 (qpv 0) ns_Name))) (qpg_name (i := 3) sc_law_land.nd rfl (Or.inl rfl)) (qpss_one (qps_expr (qpe_bm PySem.F.plainAttrs_list PySem.F.slot_list_append PySem.F.type_list_append mt_append (qpv 2) (qpa1 (qpe_tup (qpa2 (qpe_call (ok_law_spot T) (hr.mono (by decide)) rfl T.law_spot.mg T.law_spot.fn.kp T.law_spot.bn .nil pass0 (qpa4 (qpv 1) ns_Name (qpe_ix ix_tupH (qpv 3) qpe_int (fun _ _ => rfl)) ns_Subscript (qpe_ix ix_tupH (qpv 3) qpe_int (fun _ _ => rfl)) ns_Subscript qpe_int ns_Constant)) ns_Call (qpe_call (ok_law_spot T) (hr.mono (by decide)) rfl T.law_spot.mg T.law_spot.fn.kp T.law_spot.bn .nil pass0 (qpa4 (qpv 1) ns_Name (qpe_ix ix_tupH (qpv 3) qpe_int (fun _ _ => rfl)) ns_Subscript (qpe_ix ix_tupH (qpv 3) qpe_int (fun _ _ => rfl)) ns_Subscript qpe_int ns_Constant)) ns_Call)) ns_Tuple)))))
      (qps_ret (qpe_comp (dsc := defScope s_law_land) (N := ["_law_held_here", "_law_map_of", "_law_fences", "_law_way"]) (own := ["_law_one", "_law_other"]) (ix := []) rfl rfl rfl ⟨rfl, by decide +kernel, by decide +kernel, by decide +kernel, by decide +kernel⟩ (qpi_list (qpe_callB (call_sortF (hu100 hr)) rfl T.b_sorted bt_sorted (qpa1 (qpv 2) ns_Name))) (fun cl C fp s2 H2 xe => ⟨(qpg_tupH (n := 2) rfl (qpgs_cons (qpg_name (i := 0) (show List.Nodup (["_law_one", "_law_other"] : List Str) from by decide +kernel) rfl (Or.inl rfl) (Or.inr rfl)) (qpgs_cons (qpg_name (i := 1) (show List.Nodup (["_law_one", "_law_other"] : List Str) from by decide +kernel) rfl (Or.inl rfl) (Or.inr rfl)) qpgs_nil))), qpif_nil, (qpe_tup (qpa2 (qpe_call (ok_law_low T) (hr.mono (by decide)) rfl T.law_low.mg T.law_low.fn.kp T.law_low.bn .nil pass0 (qpa1 (qpv 0) ns_Name)) ns_Call (qpe_call (ok_law_low T) (hr.mono (by decide)) rfl T.law_low.mg T.law_low.fn.kp T.law_low.bn .nil pass0 (qpa1 (qpv 1) ns_Name)) ns_Call))⟩))))
    , ?_⟩
  clear  qpss3 qps_set qpe_lst qpa_nil qps_for qpi_list qpe_call qpa1 qpv qpg_name qpss_one qps_expr qpe_bm qpe_tup qpa2 qpa4 qpe_ix qpe_int qps_ret qpe_comp qpe_callB qpg_tupH qpgs_cons qpgs_nil qpif_nil QE QT QW QA QS QSs QG QGs QI QO QIf
  have hM := hp.2
  have wl := ways_len (inB_in bs)
  simp only [tSeq, tNext, tRet, tRetN, tIfS, tAsg, gName, tDrop, tVar, tC, tOp, tUn, rI, rI0, rU, rEq, rNe, tTest, tB, tNot, tAnd, tOr, tAndV, tOrV, tNotV, tIf, tCB, tCall, tNil, tCons, tTup, tLst, gTup, gCons, gNil, L2.start, rIsi, rIxT, rIxL, cx_K, tyN_non, tyN_bl, tyN_int, tyN_str, isi_ii, isi_ib, isi_it, isi_il, isi_bi, isi_bb, isi_tt, isi_ni, isi_si, isi_ti, isi_li, isi_di, isi_ll, scal_ii, scal_bb, sz0, sz1, sz2, sz3, sz4, List.map_cons, List.map_nil, List.length_cons, List.length_nil, List.replicate, List.cons_append, List.nil_append, List.append_nil, List.getElem?_cons_zero, List.getElem?_cons_succ, List.set_cons_zero, List.set_cons_succ, Option.some.injEq, V.int.injEq, V.bl.injEq, V.ref.injEq, V.ty.injEq, List.cons.injEq, and_true, true_and, exists_eq_left, exists_eq_left', exists_and_left, exists_and_right, exists_eq, exists_eq', and_assoc, Nat.reduceAdd, Nat.reduceSub, Bool.not_true, Bool.not_false, Bool.false_eq_true, if_true, if_false, reduceIte, Nat.zero_add, decide_true, decide_false, selC, comp_K, tYes, Option.join_some, rIxTH, rIxLH, rLenH, rIsiF, at0, at1, at2, at3, at4, at5, at6, at7, at8, HO.tup.injEq, HO.lst.injEq, reduceCtorEq, false_or, or_false, tyF_non, tyF_bl, tyF_int, tyF_str, exists_const, Int.reduceAdd, Int.reduceMul, Int.reduceSub, gSub, rSetL, tSl, tPart, tNoPart, rSlH, upd_same, upd_upd, rIntB, rListH, tBM, tBM0, rAppend, rClear, tPar, gTupH]
  intro D hD
  have gD := same_new hD (HO.lst [])
  refine tFor_mk ?_
  simp only [iList, tSeq, tNext, tRet, tRetN, tIfS, tAsg, gName, tDrop, tVar, tC, tOp, tUn, rI, rI0, rU, rEq, rNe, tTest, tB, tNot, tAnd, tOr, tAndV, tOrV, tNotV, tIf, tCB, tCall, tNil, tCons, tTup, tLst, gTup, gCons, gNil, L2.start, rIsi, rIxT, rIxL, cx_K, tyN_non, tyN_bl, tyN_int, tyN_str, isi_ii, isi_ib, isi_it, isi_il, isi_bi, isi_bb, isi_tt, isi_ni, isi_si, isi_ti, isi_li, isi_di, isi_ll, scal_ii, scal_bb, sz0, sz1, sz2, sz3, sz4, List.map_cons, List.map_nil, List.length_cons, List.length_nil, List.replicate, List.cons_append, List.nil_append, List.append_nil, List.getElem?_cons_zero, List.getElem?_cons_succ, List.set_cons_zero, List.set_cons_succ, Option.some.injEq, V.int.injEq, V.bl.injEq, V.ref.injEq, V.ty.injEq, List.cons.injEq, and_true, true_and, exists_eq_left, exists_eq_left', exists_and_left, exists_and_right, exists_eq, exists_eq', and_assoc, Nat.reduceAdd, Nat.reduceSub, Bool.not_true, Bool.not_false, Bool.false_eq_true, if_true, if_false, reduceIte, Nat.zero_add, decide_true, decide_false, selC, comp_K, tYes, Option.join_some, rIxTH, rIxLH, rLenH, rIsiF, at0, at1, at2, at3, at4, at5, at6, at7, at8, HO.tup.injEq, HO.lst.injEq, reduceCtorEq, false_or, or_false, tyF_non, tyF_bl, tyF_int, tyF_str, exists_const, Int.reduceAdd, Int.reduceMul, Int.reduceSub, gSub, rSetL, tSl, tPart, tNoPart, rSlH, upd_same, upd_upd, rIntB, rListH, tBM, tBM0, rAppend, rClear, tPar, gTupH]
  refine ⟨l, bs, rfl, hb.same gD, fun W zs H2 hW0 g2 hW hw => ⟨W, rfl, ⟨_, .of hW⟩, ?_⟩⟩
  have hWn : W ≠ D := (ne_of_none upd_same hW0).symm
  refine for_list (K := K) (a := W) (xs := zs) (fun i σ H' => Same H H' ∧ TupSame H2 H' ∧ H' W = some (.lst zs) ∧ ∃ (fs : List V) (o : Option V), σ = [some (.ref l), some (.ref p), some (.ref D), o] ∧ H' D = some (.lst fs) ∧ fs.length = i ∧ LR (UF M) H' fs ((waysOf (inB bs)).take i)) ⟨gD.trans g2, fun _ _ h => h, hW, [], none, rfl, g2 _ _ upd_same, rfl, by rw [List.take_zero]; exact .nil⟩ (fun i σ H' _ iv => .of iv.2.2.1) ?_ ?_
  · rintro i v σ H3 hi ⟨g3, t3, hW3, fs, o, rfl, hD3, hn, hf⟩
    obtain ⟨q, w, rfl, hw', hq⟩ := hw.2 i v hi
    have hq3 : H3 q = some (.tup [.int w.x0, .int w.y0, .int w.x1, .int w.y1]) := t3 _ _ hq
    have i40 : i < 40 := by have := (List.getElem?_eq_some_iff.mp hw').1; omega
    obtain ⟨b1, b2, b3, b4⟩ := way_in (inB_in bs) (List.mem_of_getElem? hw')
    have k1 : (1 : Int).natAbs ≤ 2 := by decide
    simp only [tSeq, tNext, tRet, tRetN, tIfS, tAsg, gName, tDrop, tVar, tC, tOp, tUn, rI, rI0, rU, rEq, rNe, tTest, tB, tNot, tAnd, tOr, tAndV, tOrV, tNotV, tIf, tCB, tCall, tNil, tCons, tTup, tLst, gTup, gCons, gNil, L2.start, rIsi, rIxT, rIxL, cx_K, tyN_non, tyN_bl, tyN_int, tyN_str, isi_ii, isi_ib, isi_it, isi_il, isi_bi, isi_bb, isi_tt, isi_ni, isi_si, isi_ti, isi_li, isi_di, isi_ll, scal_ii, scal_bb, sz0, sz1, sz2, sz3, sz4, List.map_cons, List.map_nil, List.length_cons, List.length_nil, List.replicate, List.cons_append, List.nil_append, List.append_nil, List.getElem?_cons_zero, List.getElem?_cons_succ, List.set_cons_zero, List.set_cons_succ, Option.some.injEq, V.int.injEq, V.bl.injEq, V.ref.injEq, V.ty.injEq, List.cons.injEq, and_true, true_and, exists_eq_left, exists_eq_left', exists_and_left, exists_and_right, exists_eq, exists_eq', and_assoc, Nat.reduceAdd, Nat.reduceSub, Bool.not_true, Bool.not_false, Bool.false_eq_true, if_true, if_false, reduceIte, Nat.zero_add, decide_true, decide_false, selC, comp_K, tYes, Option.join_some, rIxTH, rIxLH, rLenH, rIsiF, at0, at1, at2, at3, at4, at5, at6, at7, at8, HO.tup.injEq, HO.lst.injEq, reduceCtorEq, false_or, or_false, tyF_non, tyF_bl, tyF_int, tyF_str, exists_const, Int.reduceAdd, Int.reduceMul, Int.reduceSub, gSub, rSetL, tSl, tPart, tNoPart, rSlH, upd_same, upd_upd, rIntB, rListH, tBM, tBM0, rAppend, rClear, tPar, gTupH, hq3]
    refine ⟨tyV_of hD3, p, M, _, _, _, rfl, hp.same g3, b1, b2, k1, fun r H4 g4 hr => ?_⟩
    have hq4 := g4 _ _ hq3
    simp only [tSeq, tNext, tRet, tRetN, tIfS, tAsg, gName, tDrop, tVar, tC, tOp, tUn, rI, rI0, rU, rEq, rNe, tTest, tB, tNot, tAnd, tOr, tAndV, tOrV, tNotV, tIf, tCB, tCall, tNil, tCons, tTup, tLst, gTup, gCons, gNil, L2.start, rIsi, rIxT, rIxL, cx_K, tyN_non, tyN_bl, tyN_int, tyN_str, isi_ii, isi_ib, isi_it, isi_il, isi_bi, isi_bb, isi_tt, isi_ni, isi_si, isi_ti, isi_li, isi_di, isi_ll, scal_ii, scal_bb, sz0, sz1, sz2, sz3, sz4, List.map_cons, List.map_nil, List.length_cons, List.length_nil, List.replicate, List.cons_append, List.nil_append, List.append_nil, List.getElem?_cons_zero, List.getElem?_cons_succ, List.set_cons_zero, List.set_cons_succ, Option.some.injEq, V.int.injEq, V.bl.injEq, V.ref.injEq, V.ty.injEq, List.cons.injEq, and_true, true_and, exists_eq_left, exists_eq_left', exists_and_left, exists_and_right, exists_eq, exists_eq', and_assoc, Nat.reduceAdd, Nat.reduceSub, Bool.not_true, Bool.not_false, Bool.false_eq_true, if_true, if_false, reduceIte, Nat.zero_add, decide_true, decide_false, selC, comp_K, tYes, Option.join_some, rIxTH, rIxLH, rLenH, rIsiF, at0, at1, at2, at3, at4, at5, at6, at7, at8, HO.tup.injEq, HO.lst.injEq, reduceCtorEq, false_or, or_false, tyF_non, tyF_bl, tyF_int, tyF_str, exists_const, Int.reduceAdd, Int.reduceMul, Int.reduceSub, gSub, rSetL, tSl, tPart, tNoPart, rSlH, upd_same, upd_upd, rIntB, rListH, tBM, tBM0, rAppend, rClear, tPar, gTupH, hq4]
    refine ⟨p, M, _, _, _, rfl, hp.same (g3.trans g4), b3, b4, k1, fun r' H5 g5 hr' => ?_⟩
    simp only [tSeq, tNext, tRet, tRetN, tIfS, tAsg, gName, tDrop, tVar, tC, tOp, tUn, rI, rI0, rU, rEq, rNe, tTest, tB, tNot, tAnd, tOr, tAndV, tOrV, tNotV, tIf, tCB, tCall, tNil, tCons, tTup, tLst, gTup, gCons, gNil, L2.start, rIsi, rIxT, rIxL, cx_K, tyN_non, tyN_bl, tyN_int, tyN_str, isi_ii, isi_ib, isi_it, isi_il, isi_bi, isi_bb, isi_tt, isi_ni, isi_si, isi_ti, isi_li, isi_di, isi_ll, scal_ii, scal_bb, sz0, sz1, sz2, sz3, sz4, List.map_cons, List.map_nil, List.length_cons, List.length_nil, List.replicate, List.cons_append, List.nil_append, List.append_nil, List.getElem?_cons_zero, List.getElem?_cons_succ, List.set_cons_zero, List.set_cons_succ, Option.some.injEq, V.int.injEq, V.bl.injEq, V.ref.injEq, V.ty.injEq, List.cons.injEq, and_true, true_and, exists_eq_left, exists_eq_left', exists_and_left, exists_and_right, exists_eq, exists_eq', and_assoc, Nat.reduceAdd, Nat.reduceSub, Bool.not_true, Bool.not_false, Bool.false_eq_true, if_true, if_false, reduceIte, Nat.zero_add, decide_true, decide_false, selC, comp_K, tYes, Option.join_some, rIxTH, rIxLH, rLenH, rIsiF, at0, at1, at2, at3, at4, at5, at6, at7, at8, HO.tup.injEq, HO.lst.injEq, reduceCtorEq, false_or, or_false, tyF_non, tyF_bl, tyF_int, tyF_str, exists_const, Int.reduceAdd, Int.reduceMul, Int.reduceSub, gSub, rSetL, tSl, tPart, tNoPart, rSlH, upd_same, upd_upd, rIntB, rListH, tBM, tBM0, rAppend, rClear, tPar, gTupH]
    intro t ht
    have g6 := same_new ht (HO.tup [V.ref r, V.ref r'])
    have h6 : upd H5 t (HO.tup [V.ref r, V.ref r']) t = some (HO.tup [V.ref r, V.ref r']) := upd_same
    generalize upd H5 t (HO.tup [V.ref r, V.ref r']) = H6 at *
    have g36 := g4.trans (g5.trans g6)
    have hD6 := g36 _ _ hD3
    have hW6 := g36 _ _ hW3
    have st : UF M H6 t w := ⟨r, r', h6, ⟨g6 _ _ (g5 _ _ hr), bd_of (sp_lt hM b1 b2 k1)⟩, ⟨g6 _ _ hr', bd_of (sp_lt hM b3 b4 k1)⟩⟩
    refine ⟨fs, hD6, Nat.lt_of_le_of_lt (show fs.length ≤ 40 by omega) (by decide), same_put (g3.trans g36) hD, ts_trans t3 (ts_trans (ts_same g36) (ts_put hD6)), by rw [upd_ne hWn]; exact hW6, ?_⟩
    refine ⟨by rw [List.length_append, hn]; rfl, ?_⟩
    rw [List.take_add_one, hw']
    exact ((hf.ts uf_ts (ts_same g36)).snoc st).ts uf_ts (ts_put hD6)
  · rintro σ H3 ⟨g3, t3, hW3, fs, o, rfl, hD3, hn, hf⟩
    rw [List.take_of_length_le (by rw [hw.1]; exact Nat.le_refl _)] at hf
    simp only [tSeq, tNext, tRet, tRetN, tIfS, tAsg, gName, tDrop, tVar, tC, tOp, tUn, rI, rI0, rU, rEq, rNe, tTest, tB, tNot, tAnd, tOr, tAndV, tOrV, tNotV, tIf, tCB, tCall, tNil, tCons, tTup, tLst, gTup, gCons, gNil, L2.start, rIsi, rIxT, rIxL, cx_K, tyN_non, tyN_bl, tyN_int, tyN_str, isi_ii, isi_ib, isi_it, isi_il, isi_bi, isi_bb, isi_tt, isi_ni, isi_si, isi_ti, isi_li, isi_di, isi_ll, scal_ii, scal_bb, sz0, sz1, sz2, sz3, sz4, List.map_cons, List.map_nil, List.length_cons, List.length_nil, List.replicate, List.cons_append, List.nil_append, List.append_nil, List.getElem?_cons_zero, List.getElem?_cons_succ, List.set_cons_zero, List.set_cons_succ, Option.some.injEq, V.int.injEq, V.bl.injEq, V.ref.injEq, V.ty.injEq, List.cons.injEq, and_true, true_and, exists_eq_left, exists_eq_left', exists_and_left, exists_and_right, exists_eq, exists_eq', and_assoc, Nat.reduceAdd, Nat.reduceSub, Bool.not_true, Bool.not_false, Bool.false_eq_true, if_true, if_false, reduceIte, Nat.zero_add, decide_true, decide_false, selC, comp_K, tYes, Option.join_some, rIxTH, rIxLH, rLenH, rIsiF, at0, at1, at2, at3, at4, at5, at6, at7, at8, HO.tup.injEq, HO.lst.injEq, reduceCtorEq, false_or, or_false, tyF_non, tyF_bl, tyF_int, tyF_str, exists_const, Int.reduceAdd, Int.reduceMul, Int.reduceSub, gSub, rSetL, tSl, tPart, tNoPart, rSlH, upd_same, upd_upd, rIntB, rListH, tBM, tBM0, rAppend, rClear, tPar, gTupH]
    refine tComp_mk ?_
    simp only [iList, rSortF, tSeq, tNext, tRet, tRetN, tIfS, tAsg, gName, tDrop, tVar, tC, tOp, tUn, rI, rI0, rU, rEq, rNe, tTest, tB, tNot, tAnd, tOr, tAndV, tOrV, tNotV, tIf, tCB, tCall, tNil, tCons, tTup, tLst, gTup, gCons, gNil, L2.start, rIsi, rIxT, rIxL, cx_K, tyN_non, tyN_bl, tyN_int, tyN_str, isi_ii, isi_ib, isi_it, isi_il, isi_bi, isi_bb, isi_tt, isi_ni, isi_si, isi_ti, isi_li, isi_di, isi_ll, scal_ii, scal_bb, sz0, sz1, sz2, sz3, sz4, List.map_cons, List.map_nil, List.length_cons, List.length_nil, List.replicate, List.cons_append, List.nil_append, List.append_nil, List.getElem?_cons_zero, List.getElem?_cons_succ, List.set_cons_zero, List.set_cons_succ, Option.some.injEq, V.int.injEq, V.bl.injEq, V.ref.injEq, V.ty.injEq, List.cons.injEq, and_true, true_and, exists_eq_left, exists_eq_left', exists_and_left, exists_and_right, exists_eq, exists_eq', and_assoc, Nat.reduceAdd, Nat.reduceSub, Bool.not_true, Bool.not_false, Bool.false_eq_true, if_true, if_false, reduceIte, Nat.zero_add, decide_true, decide_false, selC, comp_K, tYes, Option.join_some, rIxTH, rIxLH, rLenH, rIsiF, at0, at1, at2, at3, at4, at5, at6, at7, at8, HO.tup.injEq, HO.lst.injEq, reduceCtorEq, false_or, or_false, tyF_non, tyF_bl, tyF_int, tyF_str, exists_const, Int.reduceAdd, Int.reduceMul, Int.reduceSub, gSub, rSetL, tSl, tPart, tNoPart, rSlH, upd_same, upd_upd, rIntB, rListH, tBM, tBM0, rAppend, rClear, tPar, gTupH, hD3]
    refine ⟨by rw [hf.1]; omega, fun v hv => ?_, fun S ys hS pm => ?_⟩
    · obtain ⟨j, hj, e⟩ := List.mem_iff_getElem.mp hv
      obtain ⟨q, w, e', _, hq⟩ := hf.2 j v (by rw [← e]; exact List.getElem?_eq_getElem hj)
      rw [e']
      exact uf_fe hq
    obtain ⟨ws, pw, hys⟩ := LR.perm pm.symm hf
    have g4 := same_new hS (HO.lst ys)
    have hS4 : upd H3 S (HO.lst ys) S = some (HO.lst ys) := upd_same
    have hys4 := hys.ts uf_ts (ts_same g4)
    generalize upd H3 S (HO.lst ys) = H4 at *
    refine ⟨⟨_, .of hS4⟩, fun A hA => ?_⟩
    refine comp_list (xs := ys) (iv_lr (LF M) ws H4 A) (iv_lr_nil hA) (fun i zs H' p => .of (p.1 _ _ hS4)) ?_ ?_
    · rintro i rs H5 v hi hv iv
      obtain ⟨q, w, rfl, hw', hq⟩ := hys4.2 i v hv
      obtain ⟨a, b, hq, ha, hb'⟩ := uf_ts _ _ _ _ (ts_same iv.1) hq
      obtain ⟨b1, b2, b3, b4⟩ := way_in (inB_in bs) (pw.mem_iff.mpr (List.mem_of_getElem? hw'))
      have k1 : (1 : Int).natAbs ≤ 2 := by decide
      have y1000 : ys.length ≤ 100 := by rw [hys.1, ← pw.length_eq]; omega
      simp only [tSeq, tNext, tRet, tRetN, tIfS, tAsg, gName, tDrop, tVar, tC, tOp, tUn, rI, rI0, rU, rEq, rNe, tTest, tB, tNot, tAnd, tOr, tAndV, tOrV, tNotV, tIf, tCB, tCall, tNil, tCons, tTup, tLst, gTup, gCons, gNil, L2.start, rIsi, rIxT, rIxL, cx_K, tyN_non, tyN_bl, tyN_int, tyN_str, isi_ii, isi_ib, isi_it, isi_il, isi_bi, isi_bb, isi_tt, isi_ni, isi_si, isi_ti, isi_li, isi_di, isi_ll, scal_ii, scal_bb, sz0, sz1, sz2, sz3, sz4, List.map_cons, List.map_nil, List.length_cons, List.length_nil, List.replicate, List.cons_append, List.nil_append, List.append_nil, List.getElem?_cons_zero, List.getElem?_cons_succ, List.set_cons_zero, List.set_cons_succ, Option.some.injEq, V.int.injEq, V.bl.injEq, V.ref.injEq, V.ty.injEq, List.cons.injEq, and_true, true_and, exists_eq_left, exists_eq_left', exists_and_left, exists_and_right, exists_eq, exists_eq', and_assoc, Nat.reduceAdd, Nat.reduceSub, Bool.not_true, Bool.not_false, Bool.false_eq_true, if_true, if_false, reduceIte, Nat.zero_add, decide_true, decide_false, selC, comp_K, tYes, Option.join_some, rIxTH, rIxLH, rLenH, rIsiF, at0, at1, at2, at3, at4, at5, at6, at7, at8, HO.tup.injEq, HO.lst.injEq, reduceCtorEq, false_or, or_false, tyF_non, tyF_bl, tyF_int, tyF_str, exists_const, Int.reduceAdd, Int.reduceMul, Int.reduceSub, gSub, rSetL, tSl, tPart, tNoPart, rSlH, upd_same, upd_upd, rIntB, rListH, tBM, tBM0, rAppend, rClear, tPar, gTupH, hq]
      refine ⟨a, _, rfl, ha.1, fun r H6 g6 hr => ⟨b, _, rfl, g6 _ _ hb'.1, fun r' H7 g7 hr' => ?_⟩⟩
      simp only [tSeq, tNext, tRet, tRetN, tIfS, tAsg, gName, tDrop, tVar, tC, tOp, tUn, rI, rI0, rU, rEq, rNe, tTest, tB, tNot, tAnd, tOr, tAndV, tOrV, tNotV, tIf, tCB, tCall, tNil, tCons, tTup, tLst, gTup, gCons, gNil, L2.start, rIsi, rIxT, rIxL, cx_K, tyN_non, tyN_bl, tyN_int, tyN_str, isi_ii, isi_ib, isi_it, isi_il, isi_bi, isi_bb, isi_tt, isi_ni, isi_si, isi_ti, isi_li, isi_di, isi_ll, scal_ii, scal_bb, sz0, sz1, sz2, sz3, sz4, List.map_cons, List.map_nil, List.length_cons, List.length_nil, List.replicate, List.cons_append, List.nil_append, List.append_nil, List.getElem?_cons_zero, List.getElem?_cons_succ, List.set_cons_zero, List.set_cons_succ, Option.some.injEq, V.int.injEq, V.bl.injEq, V.ref.injEq, V.ty.injEq, List.cons.injEq, and_true, true_and, exists_eq_left, exists_eq_left', exists_and_left, exists_and_right, exists_eq, exists_eq', and_assoc, Nat.reduceAdd, Nat.reduceSub, Bool.not_true, Bool.not_false, Bool.false_eq_true, if_true, if_false, reduceIte, Nat.zero_add, decide_true, decide_false, selC, comp_K, tYes, Option.join_some, rIxTH, rIxLH, rLenH, rIsiF, at0, at1, at2, at3, at4, at5, at6, at7, at8, HO.tup.injEq, HO.lst.injEq, reduceCtorEq, false_or, or_false, tyF_non, tyF_bl, tyF_int, tyF_str, exists_const, Int.reduceAdd, Int.reduceMul, Int.reduceSub, gSub, rSetL, tSl, tPart, tNoPart, rSlH, upd_same, upd_upd, rIntB, rListH, tBM, tBM0, rAppend, rClear, tPar, gTupH]
      intro t ht
      have g8 := same_new ht (HO.tup [V.ref r, V.ref r'])
      exact iv_lr_put lf_ts hA (by omega) iv hi hw' (g6.trans (g7.trans g8)) ⟨r, r', upd_same, ⟨g8 _ _ (g7 _ _ hr), bd_of (lo_lt hM b1 b2 k1)⟩, ⟨g8 _ _ hr', bd_of (lo_lt hM b3 b4 k1)⟩⟩
    · rintro rs H5 ⟨g5, hA5, hn5, hr5⟩
      rw [List.take_of_length_le (by rw [← hys.1]; exact Nat.le_refl _)] at hr5
      exact k A rs ws H5 (g3.free (g4.free hA)) (g3.trans (g4.trans g5)) ⟨hA5, pw.symm, LR.map (R := StV) (f := lfQ M) hr5⟩
theorem two_at {i : Nat} {v : V} {a b : Int} (h : ([V.int a, V.int b] : List V)[i]? = some v) : ∃ d : Int, v = .int d ∧ ([a, b] : List Int)[i]? = some d := by
  match i, h with
  | 0, h => cases h; exact ⟨a, rfl, rfl⟩
  | 1, h => cases h; exact ⟨b, rfl, rfl⟩
theorem around_at {I : Int → Int → Bool} {X Y : Int} {i j : Nat} {dx dy : Int} (hi : ([0, X % 2 - 1] : List Int)[i]? = some dx) (hj : ([0, Y % 2 - 1] : List Int)[j]? = some dy) : (around I X Y)[2 * i + j]? = some (I (X / 2 + dx) (Y / 2 + dy)) := by
  unfold around
  match i, j, hi, hj with
  | 0, 0, hi, hj => cases hi; cases hj; rw [Int.add_zero, Int.add_zero]; rfl
  | 0, 1, hi, hj => cases hi; cases hj; rw [Int.add_zero]; rfl
  | 1, 0, hi, hj => cases hi; cases hj; rw [Int.add_zero]; rfl
  | 1, 1, hi, hj => cases hi; cases hj; rfl
theorem ok_law_due (T : Txt K mg ad fd) : FnOk P w K mg base CX0 2 (ad 32) (fd 32) ["_law_held_here", "_law_x", "_law_y"] sp_due := by
  refine T.law_due.fn.ok sc_law_due (fun vs H Q E h => ?_) (fun cdv A outer s H vs Q E hr h => ?_)
  · obtain ⟨l, bs, x, y, rfl, _⟩ := h
    rfl
  obtain ⟨l, bs, x, y, rfl, hb, k⟩ := h
  have qpss4 := @pss4
  have qps_set := @ps_set
  have qpe_lst := @pe_lst
  have qpa_nil := @pa_nil
  have qps_for := @ps_for
  have qpi_list := @pi_list
  have qpa2 := @pa2
  have qpe_int := @pe_int
  have qpe_op := @pe_op
  have qpv := @pv
  have qpg_name := @pg_name
  have qpss_one := @pss_one
  have qps_expr := @ps_expr
  have qpe_bm := @pe_bm
  have qpa1 := @pa1
  have qpe_call := @pe_call
  have qpa3 := @pa3
  have qps_if := @ps_if
  have qPWpt := @PW.pt
  have qpw_and := @pw_and
  have qpt_val := @pt_val
  have qpe_ix := @pe_ix
  have qpw_and1 := @pw_and1
  have qps_ret := @ps_ret
  have qpss_nil := @pss_nil
  have qpe_callTy := @pe_callTy
  have qpe_or := @pe_or
  have qpe_one := @pe_one
  generalize @L2.PE = QE, @L2.PT = QT, @L2.PW = QW, @L2.PA = QA, @L2.PS = QS, @L2.PSs = QSs, @L2.PG = QG, @L2.PGs = QGs, @L2.PI = QI, @L2.PO = QO, @L2.PIf = QIf at qpss4 qps_set qpe_lst qpa_nil qps_for qpi_list qpa2 qpe_int qpe_op qpv qpg_name qpss_one qps_expr qpe_bm qpa1 qpe_call qpa3 qps_if qPWpt qpw_and qpt_val qpe_ix qpw_and1 qps_ret qpss_nil qpe_callTy qpe_or qpe_one ⊢
  refine ⟨_,
    (qpss4
      (qps_set (i := 3) sc_law_due.nd rfl (Or.inl rfl) (qpe_lst qpa_nil))
      (qps_for PassesOwn.never rfl (qpi_list (qpe_lst (qpa2 qpe_int ns_Constant (qpe_op op_sub (qpe_op op_mod (qpv 1) qpe_int) qpe_int) ns_BinOp))) (qpg_name (i := 4) sc_law_due.nd rfl (Or.inl rfl)) (qpss_one (qps_for PassesOwn.never rfl (qpi_list (qpe_lst (qpa2 qpe_int ns_Constant (qpe_op op_sub (qpe_op op_mod (qpv 2) qpe_int) qpe_int) ns_BinOp))) (qpg_name (i := 5) sc_law_due.nd rfl (Or.inl rfl)) (qpss_one (qps_expr (qpe_bm PySem.F.plainAttrs_list PySem.F.slot_list_append PySem.F.type_list_append mt_append (qpv 3) (qpa1 (qpe_call (ok_law_in T) (hr.mono (by decide)) rfl T.law_in.mg T.law_in.fn.kp T.law_in.bn .nil pass0 (qpa3 (qpv 0) ns_Name (qpe_op op_add (qpe_op op_fdiv (qpv 1) qpe_int) (qpv 4)) ns_BinOp (qpe_op op_add (qpe_op op_fdiv (qpv 2) qpe_int) (qpv 5)) ns_BinOp)) ns_Call)))))))
      (qps_if (qPWpt (qpw_and (qpt_val (qpe_ix ix_listH (qpv 3) qpe_int (fun _ _ => rfl))) (qpw_and (qpt_val (qpe_ix ix_listH (qpv 3) qpe_int (fun _ _ => rfl))) (qpw_and (qpt_val (qpe_ix ix_listH (qpv 3) qpe_int (fun _ _ => rfl))) (qpw_and1 (qpt_val (qpe_ix ix_listH (qpv 3) qpe_int (fun _ _ => rfl)))))))) (qpss_one (qps_ret qpe_int)) qpss_nil)
      (qps_ret (qpe_op op_sub (qpe_callTy call_intB rfl T.b_int bt_int (qpa1 (qpe_or (qpe_ix ix_listH (qpv 3) qpe_int (fun _ _ => rfl)) (qpe_or (qpe_ix ix_listH (qpv 3) qpe_int (fun _ _ => rfl)) (qpe_or (qpe_ix ix_listH (qpv 3) qpe_int (fun _ _ => rfl)) (qpe_one (qpe_ix ix_listH (qpv 3) qpe_int (fun _ _ => rfl)))))) ns_BoolOp)) qpe_int)))
    , ?_⟩
  clear  qpss4 qps_set qpe_lst qpa_nil qps_for qpi_list qpa2 qpe_int qpe_op qpv qpg_name qpss_one qps_expr qpe_bm qpa1 qpe_call qpa3 qps_if qPWpt qpw_and qpt_val qpe_ix qpw_and1 qps_ret qpss_nil qpe_callTy qpe_or qpe_one QE QT QW QA QS QSs QG QGs QI QO QIf
  simp only [tSeq, tNext, tRet, tRetN, tIfS, tAsg, gName, tDrop, tVar, tC, tOp, tUn, rI, rI0, rU, rEq, rNe, tTest, tB, tNot, tAnd, tOr, tAndV, tOrV, tNotV, tIf, tCB, tCall, tNil, tCons, tTup, tLst, gTup, gCons, gNil, L2.start, rIsi, rIxT, rIxL, cx_K, tyN_non, tyN_bl, tyN_int, tyN_str, isi_ii, isi_ib, isi_it, isi_il, isi_bi, isi_bb, isi_tt, isi_ni, isi_si, isi_ti, isi_li, isi_di, isi_ll, scal_ii, scal_bb, sz0, sz1, sz2, sz3, sz4, List.map_cons, List.map_nil, List.length_cons, List.length_nil, List.replicate, List.cons_append, List.nil_append, List.append_nil, List.getElem?_cons_zero, List.getElem?_cons_succ, List.set_cons_zero, List.set_cons_succ, Option.some.injEq, V.int.injEq, V.bl.injEq, V.ref.injEq, V.ty.injEq, List.cons.injEq, and_true, true_and, exists_eq_left, exists_eq_left', exists_and_left, exists_and_right, exists_eq, exists_eq', and_assoc, Nat.reduceAdd, Nat.reduceSub, Bool.not_true, Bool.not_false, Bool.false_eq_true, if_true, if_false, reduceIte, Nat.zero_add, decide_true, decide_false, selC, comp_K, tYes, Option.join_some, rIxTH, rIxLH, rLenH, rIsiF, at0, at1, at2, at3, at4, at5, at6, at7, at8, HO.tup.injEq, HO.lst.injEq, reduceCtorEq, false_or, or_false, tyF_non, tyF_bl, tyF_int, tyF_str, exists_const, Int.reduceAdd, Int.reduceMul, Int.reduceSub, gSub, rSetL, tSl, tPart, tNoPart, rSlH, upd_same, upd_upd, rIntB, rListH, tBM, tBM0, rAppend, rClear, tPar, gTupH]
  intro A hA
  have gA := same_new hA (HO.lst [])
  refine tFor_mk ?_
  simp only [iList, tSeq, tNext, tRet, tRetN, tIfS, tAsg, gName, tDrop, tVar, tC, tOp, tUn, rI, rI0, rU, rEq, rNe, tTest, tB, tNot, tAnd, tOr, tAndV, tOrV, tNotV, tIf, tCB, tCall, tNil, tCons, tTup, tLst, gTup, gCons, gNil, L2.start, rIsi, rIxT, rIxL, cx_K, tyN_non, tyN_bl, tyN_int, tyN_str, isi_ii, isi_ib, isi_it, isi_il, isi_bi, isi_bb, isi_tt, isi_ni, isi_si, isi_ti, isi_li, isi_di, isi_ll, scal_ii, scal_bb, sz0, sz1, sz2, sz3, sz4, List.map_cons, List.map_nil, List.length_cons, List.length_nil, List.replicate, List.cons_append, List.nil_append, List.append_nil, List.getElem?_cons_zero, List.getElem?_cons_succ, List.set_cons_zero, List.set_cons_succ, Option.some.injEq, V.int.injEq, V.bl.injEq, V.ref.injEq, V.ty.injEq, List.cons.injEq, and_true, true_and, exists_eq_left, exists_eq_left', exists_and_left, exists_and_right, exists_eq, exists_eq', and_assoc, Nat.reduceAdd, Nat.reduceSub, Bool.not_true, Bool.not_false, Bool.false_eq_true, if_true, if_false, reduceIte, Nat.zero_add, decide_true, decide_false, selC, comp_K, tYes, Option.join_some, rIxTH, rIxLH, rLenH, rIsiF, at0, at1, at2, at3, at4, at5, at6, at7, at8, HO.tup.injEq, HO.lst.injEq, reduceCtorEq, false_or, or_false, tyF_non, tyF_bl, tyF_int, tyF_str, exists_const, Int.reduceAdd, Int.reduceMul, Int.reduceSub, gSub, rSetL, tSl, tPart, tNoPart, rSlH, upd_same, upd_upd, rIntB, rListH, tBM, tBM0, rAppend, rClear, tPar, gTupH]
  refine ⟨by decide, fun L hL => ?_⟩
  have gL := same_new hL (HO.lst [V.int 0, V.int (x % 2 - 1)])
  have hL1 : upd (upd H A (HO.lst [])) L (HO.lst [V.int 0, V.int (x % 2 - 1)]) L = some (HO.lst [V.int 0, V.int (x % 2 - 1)]) := upd_same
  have hA1 := gL _ _ (show upd H A (HO.lst []) A = some (HO.lst []) from upd_same)
  have nL : L ≠ A := (ne_of_none upd_same hL).symm
  have g1 := gA.trans gL
  generalize upd (upd H A (HO.lst [])) L (HO.lst [V.int 0, V.int (x % 2 - 1)]) = H1 at *
  refine ⟨⟨_, .of hL1⟩, for_list (K := K) (a := L) (xs := [V.int 0, V.int (x % 2 - 1)]) (fun i σ H' => Same H H' ∧ H' L = some (.lst [V.int 0, V.int (x % 2 - 1)]) ∧ ∃ o1 o2, σ = [some (.ref l), some (.int x), some (.int y), some (.ref A), o1, o2] ∧ H' A = some (.lst (((around (inB bs) x y).take (2 * i)).map V.bl))) ⟨g1, hL1, none, none, rfl, hA1⟩ (fun i σ H' _ iv => .of iv.2.1) ?_ ?_⟩
  · rintro i v σ H2 hi ⟨g2, hL2, o1, o2, rfl, hA2⟩
    obtain ⟨dx, rfl, hdx⟩ := two_at hi
    have i2 : i < 2 := (List.getElem?_eq_some_iff.mp hi).1
    simp only [tSeq, tNext, tRet, tRetN, tIfS, tAsg, gName, tDrop, tVar, tC, tOp, tUn, rI, rI0, rU, rEq, rNe, tTest, tB, tNot, tAnd, tOr, tAndV, tOrV, tNotV, tIf, tCB, tCall, tNil, tCons, tTup, tLst, gTup, gCons, gNil, L2.start, rIsi, rIxT, rIxL, cx_K, tyN_non, tyN_bl, tyN_int, tyN_str, isi_ii, isi_ib, isi_it, isi_il, isi_bi, isi_bb, isi_tt, isi_ni, isi_si, isi_ti, isi_li, isi_di, isi_ll, scal_ii, scal_bb, sz0, sz1, sz2, sz3, sz4, List.map_cons, List.map_nil, List.length_cons, List.length_nil, List.replicate, List.cons_append, List.nil_append, List.append_nil, List.getElem?_cons_zero, List.getElem?_cons_succ, List.set_cons_zero, List.set_cons_succ, Option.some.injEq, V.int.injEq, V.bl.injEq, V.ref.injEq, V.ty.injEq, List.cons.injEq, and_true, true_and, exists_eq_left, exists_eq_left', exists_and_left, exists_and_right, exists_eq, exists_eq', and_assoc, Nat.reduceAdd, Nat.reduceSub, Bool.not_true, Bool.not_false, Bool.false_eq_true, if_true, if_false, reduceIte, Nat.zero_add, decide_true, decide_false, selC, comp_K, tYes, Option.join_some, rIxTH, rIxLH, rLenH, rIsiF, at0, at1, at2, at3, at4, at5, at6, at7, at8, HO.tup.injEq, HO.lst.injEq, reduceCtorEq, false_or, or_false, tyF_non, tyF_bl, tyF_int, tyF_str, exists_const, Int.reduceAdd, Int.reduceMul, Int.reduceSub, gSub, rSetL, tSl, tPart, tNoPart, rSlH, upd_same, upd_upd, rIntB, rListH, tBM, tBM0, rAppend, rClear, tPar, gTupH]
    refine tFor_mk ?_
    simp only [iList, tSeq, tNext, tRet, tRetN, tIfS, tAsg, gName, tDrop, tVar, tC, tOp, tUn, rI, rI0, rU, rEq, rNe, tTest, tB, tNot, tAnd, tOr, tAndV, tOrV, tNotV, tIf, tCB, tCall, tNil, tCons, tTup, tLst, gTup, gCons, gNil, L2.start, rIsi, rIxT, rIxL, cx_K, tyN_non, tyN_bl, tyN_int, tyN_str, isi_ii, isi_ib, isi_it, isi_il, isi_bi, isi_bb, isi_tt, isi_ni, isi_si, isi_ti, isi_li, isi_di, isi_ll, scal_ii, scal_bb, sz0, sz1, sz2, sz3, sz4, List.map_cons, List.map_nil, List.length_cons, List.length_nil, List.replicate, List.cons_append, List.nil_append, List.append_nil, List.getElem?_cons_zero, List.getElem?_cons_succ, List.set_cons_zero, List.set_cons_succ, Option.some.injEq, V.int.injEq, V.bl.injEq, V.ref.injEq, V.ty.injEq, List.cons.injEq, and_true, true_and, exists_eq_left, exists_eq_left', exists_and_left, exists_and_right, exists_eq, exists_eq', and_assoc, Nat.reduceAdd, Nat.reduceSub, Bool.not_true, Bool.not_false, Bool.false_eq_true, if_true, if_false, reduceIte, Nat.zero_add, decide_true, decide_false, selC, comp_K, tYes, Option.join_some, rIxTH, rIxLH, rLenH, rIsiF, at0, at1, at2, at3, at4, at5, at6, at7, at8, HO.tup.injEq, HO.lst.injEq, reduceCtorEq, false_or, or_false, tyF_non, tyF_bl, tyF_int, tyF_str, exists_const, Int.reduceAdd, Int.reduceMul, Int.reduceSub, gSub, rSetL, tSl, tPart, tNoPart, rSlH, upd_same, upd_upd, rIntB, rListH, tBM, tBM0, rAppend, rClear, tPar, gTupH]
    refine ⟨by decide, fun N hN => ?_⟩
    have gN := same_new hN (HO.lst [V.int 0, V.int (y % 2 - 1)])
    have hN3 : upd H2 N (HO.lst [V.int 0, V.int (y % 2 - 1)]) N = some (HO.lst [V.int 0, V.int (y % 2 - 1)]) := upd_same
    have nN : N ≠ A := (ne_of_none hA2 hN).symm
    have hA3 := gN _ _ hA2
    have hL3 := gN _ _ hL2
    have g3 := g2.trans gN
    generalize upd H2 N (HO.lst [V.int 0, V.int (y % 2 - 1)]) = H3 at *
    refine ⟨⟨_, .of hN3⟩, for_list (K := K) (a := N) (xs := [V.int 0, V.int (y % 2 - 1)]) (fun j σ H' => Same H H' ∧ H' L = some (.lst [V.int 0, V.int (x % 2 - 1)]) ∧ H' N = some (.lst [V.int 0, V.int (y % 2 - 1)]) ∧ ∃ o2, σ = [some (.ref l), some (.int x), some (.int y), some (.ref A), some (.int dx), o2] ∧ H' A = some (.lst (((around (inB bs) x y).take (2 * i + j)).map V.bl))) ⟨g3, hL3, hN3, o2, rfl, hA3⟩ (fun i σ H' _ iv => .of iv.2.2.1) ?_ ?_⟩
    · rintro j v σ H4 hj ⟨g4, hL4, hN4, o2, rfl, hA4⟩
      obtain ⟨dy, rfl, hdy⟩ := two_at hj
      have j2 : j < 2 := (List.getElem?_eq_some_iff.mp hj).1
      have ea := around_at (I := inB bs) hdx hdy
      simp only [tSeq, tNext, tRet, tRetN, tIfS, tAsg, gName, tDrop, tVar, tC, tOp, tUn, rI, rI0, rU, rEq, rNe, tTest, tB, tNot, tAnd, tOr, tAndV, tOrV, tNotV, tIf, tCB, tCall, tNil, tCons, tTup, tLst, gTup, gCons, gNil, L2.start, rIsi, rIxT, rIxL, cx_K, tyN_non, tyN_bl, tyN_int, tyN_str, isi_ii, isi_ib, isi_it, isi_il, isi_bi, isi_bb, isi_tt, isi_ni, isi_si, isi_ti, isi_li, isi_di, isi_ll, scal_ii, scal_bb, sz0, sz1, sz2, sz3, sz4, List.map_cons, List.map_nil, List.length_cons, List.length_nil, List.replicate, List.cons_append, List.nil_append, List.append_nil, List.getElem?_cons_zero, List.getElem?_cons_succ, List.set_cons_zero, List.set_cons_succ, Option.some.injEq, V.int.injEq, V.bl.injEq, V.ref.injEq, V.ty.injEq, List.cons.injEq, and_true, true_and, exists_eq_left, exists_eq_left', exists_and_left, exists_and_right, exists_eq, exists_eq', and_assoc, Nat.reduceAdd, Nat.reduceSub, Bool.not_true, Bool.not_false, Bool.false_eq_true, if_true, if_false, reduceIte, Nat.zero_add, decide_true, decide_false, selC, comp_K, tYes, Option.join_some, rIxTH, rIxLH, rLenH, rIsiF, at0, at1, at2, at3, at4, at5, at6, at7, at8, HO.tup.injEq, HO.lst.injEq, reduceCtorEq, false_or, or_false, tyF_non, tyF_bl, tyF_int, tyF_str, exists_const, Int.reduceAdd, Int.reduceMul, Int.reduceSub, gSub, rSetL, tSl, tPart, tNoPart, rSlH, upd_same, upd_upd, rIntB, rListH, tBM, tBM0, rAppend, rClear, tPar, gTupH]
      refine ⟨tyV_of hA4, ⟨by decide, by decide⟩, ⟨by decide, by decide⟩, l, bs, _, _, rfl, hb.same g4, ?_⟩
      simp only [tSeq, tNext, tRet, tRetN, tIfS, tAsg, gName, tDrop, tVar, tC, tOp, tUn, rI, rI0, rU, rEq, rNe, tTest, tB, tNot, tAnd, tOr, tAndV, tOrV, tNotV, tIf, tCB, tCall, tNil, tCons, tTup, tLst, gTup, gCons, gNil, L2.start, rIsi, rIxT, rIxL, cx_K, tyN_non, tyN_bl, tyN_int, tyN_str, isi_ii, isi_ib, isi_it, isi_il, isi_bi, isi_bb, isi_tt, isi_ni, isi_si, isi_ti, isi_li, isi_di, isi_ll, scal_ii, scal_bb, sz0, sz1, sz2, sz3, sz4, List.map_cons, List.map_nil, List.length_cons, List.length_nil, List.replicate, List.cons_append, List.nil_append, List.append_nil, List.getElem?_cons_zero, List.getElem?_cons_succ, List.set_cons_zero, List.set_cons_succ, Option.some.injEq, V.int.injEq, V.bl.injEq, V.ref.injEq, V.ty.injEq, List.cons.injEq, and_true, true_and, exists_eq_left, exists_eq_left', exists_and_left, exists_and_right, exists_eq, exists_eq', and_assoc, Nat.reduceAdd, Nat.reduceSub, Bool.not_true, Bool.not_false, Bool.false_eq_true, if_true, if_false, reduceIte, Nat.zero_add, decide_true, decide_false, selC, comp_K, tYes, Option.join_some, rIxTH, rIxLH, rLenH, rIsiF, at0, at1, at2, at3, at4, at5, at6, at7, at8, HO.tup.injEq, HO.lst.injEq, reduceCtorEq, false_or, or_false, tyF_non, tyF_bl, tyF_int, tyF_str, exists_const, Int.reduceAdd, Int.reduceMul, Int.reduceSub, gSub, rSetL, tSl, tPart, tNoPart, rSlH, upd_same, upd_upd, rIntB, rListH, tBM, tBM0, rAppend, rClear, tPar, gTupH, hA4]
      refine ⟨Nat.lt_of_le_of_lt (show _ ≤ 4 by rw [List.length_map, List.length_take]; omega) (by decide), same_put g4 hA, by rw [upd_ne nL]; exact hL4, by rw [upd_ne nN]; exact hN4, ?_⟩
      rw [show 2 * i + (j + 1) = (2 * i + j) + 1 by omega, List.take_add_one, ea, List.map_append]
      rfl
    · rintro σ H4 ⟨g4, hL4, hN4, o2, rfl, hA4⟩
      exact ⟨g4, hL4, ⟨_, _, rfl⟩, hA4⟩
  · rintro σ H2 ⟨g2, hL2, o1, o2, rfl, hA2⟩
    have z := k H2 g2
    unfold dueV allA anyA at z
    unfold around at hA2 z
    simp only [List.length_cons, List.length_nil, Nat.reduceAdd, Nat.reduceMul, List.take, List.map_cons, List.map_nil] at hA2
    simp only [tSeq, tNext, tRet, tRetN, tIfS, tAsg, gName, tDrop, tVar, tC, tOp, tUn, rI, rI0, rU, rEq, rNe, tTest, tB, tNot, tAnd, tOr, tAndV, tOrV, tNotV, tIf, tCB, tCall, tNil, tCons, tTup, tLst, gTup, gCons, gNil, L2.start, rIsi, rIxT, rIxL, cx_K, tyN_non, tyN_bl, tyN_int, tyN_str, isi_ii, isi_ib, isi_it, isi_il, isi_bi, isi_bb, isi_tt, isi_ni, isi_si, isi_ti, isi_li, isi_di, isi_ll, scal_ii, scal_bb, sz0, sz1, sz2, sz3, sz4, List.map_cons, List.map_nil, List.length_cons, List.length_nil, List.replicate, List.cons_append, List.nil_append, List.append_nil, List.getElem?_cons_zero, List.getElem?_cons_succ, List.set_cons_zero, List.set_cons_succ, Option.some.injEq, V.int.injEq, V.bl.injEq, V.ref.injEq, V.ty.injEq, List.cons.injEq, and_true, true_and, exists_eq_left, exists_eq_left', exists_and_left, exists_and_right, exists_eq, exists_eq', and_assoc, Nat.reduceAdd, Nat.reduceSub, Bool.not_true, Bool.not_false, Bool.false_eq_true, if_true, if_false, reduceIte, Nat.zero_add, decide_true, decide_false, selC, comp_K, tYes, Option.join_some, rIxTH, rIxLH, rLenH, rIsiF, at0, at1, at2, at3, at4, at5, at6, at7, at8, HO.tup.injEq, HO.lst.injEq, reduceCtorEq, false_or, or_false, tyF_non, tyF_bl, tyF_int, tyF_str, exists_const, Int.reduceAdd, Int.reduceMul, Int.reduceSub, gSub, rSetL, tSl, tPart, tNoPart, rSlH, upd_same, upd_upd, rIntB, rListH, tBM, tBM0, rAppend, rClear, tPar, gTupH, hA2]
    simp only [List.all_cons, List.all_nil, List.any_cons, List.any_nil, Bool.and_true, Bool.or_false, id] at z
    revert z
    generalize inB bs (x / 2) (y / 2) = b1
    generalize inB bs (x / 2) (y / 2 + (y % 2 - 1)) = b2'
    generalize inB bs (x / 2 + (x % 2 - 1)) (y / 2) = b3
    generalize inB bs (x / 2 + (x % 2 - 1)) (y / 2 + (y % 2 - 1)) = b4
    intro z
    cases b1 <;> cases b2' <;> cases b3 <;> cases b4 <;> simpa [b2] using z
theorem al_int {n : Nat} {H : Hp} (i : Int) : Al (n + 1) H (.int i) (.int i) := .inl ⟨i, rfl, rfl⟩
theorem al_two {H : Hp} {p q : Addr} {a b : Int} (hp : H p = some (.tup [.int a, .int b])) (hq : H q = some (.tup [.int a, .int b])) : Al 4 H (.ref p) (.ref q) := by
  refine .inr ⟨p, q, _, _, rfl, rfl, .inl ⟨hp, hq⟩, rfl, by simp only [List.length_cons, List.length_nil]; omega, fun j u v hu hv => ?_⟩
  match j, hu, hv with
  | 0, hu, hv => cases hu; cases hv; exact al_int a
  | 1, hu, hv => cases hu; cases hv; exact al_int b
structure LdOk (bs : List Bool) (M : M7) (ws : List W4) : Prop where
  ap : Apart (ws.map (lfQ M))
  ar : ArOk (M.m * M.m) (ws.map (lfQ M)) (ws.map (crW M))
  sum : sumA (ws.map (crW M)) < 2 ^ 300
  sz : SzD (M.m * M.m)
  len : ws.length ≤ 40
theorem ld_ok {bs : List Bool} {M : M7} {ws : List W4} (hM : MOk M) (pw : ws.Perm (waysOf (inB bs))) : LdOk bs M ws where
  ap := fun j d h => by
    rw [List.getElem?_map] at h
    cases e : ws[j]? with
    | none => rw [e] at h; cases h
    | some w =>
      rw [e] at h
      cases h
      exact lf_apart hM (pw.mem_iff.mp (List.mem_of_getElem? e))
  ar := ⟨by rw [List.length_map, List.length_map], fun j d n h h' => by
    rw [List.getElem?_map] at h h'
    cases e : ws[j]? with
    | none => rw [e] at h; cases h
    | some w =>
      rw [e] at h h'
      cases h
      cases h'
      exact ⟨Int.mul_pos (lf_w hM.mp w).1 (lf_w hM.mp w).2, cr_lf hM.mp w⟩⟩
  sum := Int.lt_trans (land_sum (inB_in bs) hM pw) (by decide)
  sz := ⟨by rcases hM.mm with e | e | e | e <;> rw [e] <;> decide, by rcases hM.mm with e | e | e | e <;> rw [e] <;> decide⟩
  len := by rw [pw.length_eq]; exact ways_len (inB_in bs)
theorem area_is {bs : List Bool} (hb : bs.length = 16) {M : M7} {ws : List W4} (hM : MOk M) (pw : ws.Perm (waysOf (inB bs))) {H : Hp} {r : Addr} (h : FrH (2 * (M.m * M.m)) H r (sumN (ws.map (crW M)))) : H r = some (.tup [.int (arV bs M).t, .int (arV bs M).b]) := by
  obtain ⟨t, b, h1, h2⟩ := h
  rw [sumN_map] at h2
  obtain ⟨e1, e2⟩ := land_area hb hM pw h2
  rw [h1, e1, e2]
  rfl
theorem area_nil {H : Hp} {r : Addr} (h : FrH (2 * 1) H r (sumN [])) : H r = some (.tup [.int 0, .int 1]) := by
  obtain ⟨t, b, h1, h2⟩ := h
  have z : FrD (2 * 1) (sumN []) 0 1 := ⟨by decide, by decide, by decide⟩
  obtain ⟨e1, e2⟩ := FrD.uniq (by decide) h2 z
  rw [h1, e1, e2]
theorem ok_law (T : Txt K mg ad fd) : FnOk P w K mg base CX0 6 (ad 33) (fd 33) ["_law_script"] (sp_law K) := by
  refine T.law.fn.ok sc_law (fun vs H Q E h => ?_) (fun cdv A outer s H vs Q E hr h => ?_)
  · obtain ⟨a, ns, rfl, _⟩ := h
    rfl
  obtain ⟨a0, ns, rfl, hS, hlen, k⟩ := h
  have qpss12 := @pss12
  have qps_set := @ps_set
  have qpe_call := @pe_call
  have qpa1 := @pa1
  have qpe_op := @pe_op
  have qpa2 := @pa2
  have qpv := @pv
  have qpe_int := @pe_int
  have qpe_callTy := @pe_callTy
  have qps_if := @ps_if
  have qpt_not := @pt_not
  have qpt_val := @pt_val
  have qpss_one := @pss_one
  have qps_ret := @ps_ret
  have qpe_bl := @pe_bl
  have qpss_nil := @pss_nil
  have qps_for := @ps_for
  have qpi_range1 := @pi_range1
  have qpg_name := @pg_name
  have qpss3 := @pss3
  have qpa4 := @pa4
  have qpa3 := @pa3
  have qPWpt := @PW.pt
  have qpw_or := @pw_or
  have qpw_or1 := @pw_or1
  have qpt_cmpR := @pt_cmpR
  have qps_expr := @ps_expr
  have qpe_bm0 := @pe_bm0
  have qpe_tup := @pe_tup
  have qpe_un := @pe_un
  generalize @L2.PE = QE, @L2.PT = QT, @L2.PW = QW, @L2.PA = QA, @L2.PS = QS, @L2.PSs = QSs, @L2.PG = QG, @L2.PGs = QGs, @L2.PI = QI, @L2.PO = QO, @L2.PIf = QIf at qpss12 qps_set qpe_call qpa1 qpe_op qpa2 qpv qpe_int qpe_callTy qps_if qpt_not qpt_val qpss_one qps_ret qpe_bl qpss_nil qps_for qpi_range1 qpg_name qpss3 qpa4 qpa3 qPWpt qpw_or qpw_or1 qpt_cmpR qps_expr qpe_bm0 qpe_tup qpe_un ⊢
  refine ⟨_,
    (qpss12
      (qps_set (i := 1) sc_law.nd rfl (Or.inl rfl) (qpe_call (ok_law_held T) (hr.mono (by decide)) rfl T.law_held.mg T.law_held.fn.kp T.law_held.bn .nil pass0 (qpa1 (qpe_op op_mod (qpe_call (ok_law_cell_at T) (hr.mono (by decide)) rfl T.law_cell_at.mg T.law_cell_at.fn.kp T.law_cell_at.bn .nil pass0 (qpa2 (qpv 0) ns_Name qpe_int ns_Constant)) qpe_int) ns_BinOp)))
      (qps_set (i := 2) sc_law.nd rfl (Or.inl rfl) (qpe_call (ok_law_map T) (hr.mono (by decide)) rfl T.law_map.mg T.law_map.fn.kp T.law_map.bn .nil pass0 (qpa1 (qpe_call (ok_law_cell_at T) (hr.mono (by decide)) rfl T.law_cell_at.mg T.law_cell_at.fn.kp T.law_cell_at.bn .nil pass0 (qpa2 (qpv 0) ns_Name qpe_int ns_Constant)) ns_Call)))
      (qps_set (i := 3) sc_law.nd rfl (Or.inl rfl) (qpe_call (ok_law_land T) (hr.mono (by decide)) rfl T.law_land.mg T.law_land.fn.kp T.law_land.bn .nil pass0 (qpa2 (qpv 1) ns_Name (qpv 2) ns_Name)))
      (qps_set (i := 4) sc_law.nd rfl (Or.inl rfl) (qpe_callTy call_listH rfl T.b_list bt_list (qpa1 (qpv 3) ns_Name)))
      (qps_set (i := 5) sc_law.nd rfl (Or.inl rfl) (qpe_call (ok_area T) (hr.mono (by decide)) rfl T.area.mg T.area.fn.kp T.area.bn .nil pass0 (qpa1 (qpv 4) ns_Name)))
      (qps_if (qpt_not (qpt_val (qpe_call (ok_law_alike T) (hr.mono (by decide)) rfl T.law_alike.mg T.law_alike.fn.kp T.law_alike.bn .nil pass0 (qpa2 (qpv 5) ns_Name (qpe_call (ok_law_area T) (hr.mono (by decide)) rfl T.law_area.mg T.law_area.fn.kp T.law_area.bn .nil pass0 (qpa2 (qpv 1) ns_Name (qpv 2) ns_Name)) ns_Call)))) (qpss_one (qps_ret qpe_bl)) qpss_nil)
      (qps_for PassesOwn.never rfl (qpi_range1 rfl T.b_range (qpa1 qpe_int ns_Constant)) (qpg_name (i := 6) sc_law.nd rfl (Or.inl rfl)) (qpss3
      (qps_set (i := 7) sc_law.nd rfl (Or.inl rfl) (qpe_call (ok_law_cell_at T) (hr.mono (by decide)) rfl T.law_cell_at.mg T.law_cell_at.fn.kp T.law_cell_at.bn .nil pass0 (qpa2 (qpv 0) ns_Name (qpe_op op_add qpe_int (qpv 6)) ns_BinOp)))
      (qps_set (i := 8) sc_law.nd rfl (Or.inl rfl) (qpe_call (ok_law_low T) (hr.mono (by decide)) rfl T.law_low.mg T.law_low.fn.kp T.law_low.bn .nil pass0 (qpa1 (qpe_call (ok_law_spot T) (hr.mono (by decide)) rfl T.law_spot.mg T.law_spot.fn.kp T.law_spot.bn .nil pass0 (qpa4 (qpv 2) ns_Name (qpe_op op_sub (qpe_op op_mod (qpv 7) qpe_int) qpe_int) ns_BinOp (qpe_op op_sub (qpe_op op_mod (qpe_op op_fdiv (qpv 7) qpe_int) qpe_int) qpe_int) ns_BinOp qpe_int ns_Constant)) ns_Call)))
      (qps_if (qpt_not (qpt_val (qpe_call (ok_law_alike T) (hr.mono (by decide)) rfl T.law_alike.mg T.law_alike.fn.kp T.law_alike.bn .nil pass0 (qpa2 (qpe_call (ok_whereX T) (hr.mono (by decide)) rfl T.whereX.mg T.whereX.fn.kp T.whereX.bn .nil pass0 (qpa2 (qpv 4) ns_Name (qpv 8) ns_Name)) ns_Call (qpe_call (ok_law_due T) (hr.mono (by decide)) rfl T.law_due.mg T.law_due.fn.kp T.law_due.bn .nil pass0 (qpa3 (qpv 1) ns_Name (qpe_op op_sub (qpe_op op_mod (qpv 7) qpe_int) qpe_int) ns_BinOp (qpe_op op_sub (qpe_op op_mod (qpe_op op_fdiv (qpv 7) qpe_int) qpe_int) qpe_int) ns_BinOp)) ns_Call)))) (qpss_one (qps_ret qpe_bl)) qpss_nil)))
      (qps_set (i := 9) sc_law.nd rfl (Or.inl rfl) (qpe_call (ok_law_held T) (hr.mono (by decide)) rfl T.law_held.mg T.law_held.fn.kp T.law_held.bn .nil pass0 (qpa1 (qpe_op op_mod (qpe_call (ok_law_cell_at T) (hr.mono (by decide)) rfl T.law_cell_at.mg T.law_cell_at.fn.kp T.law_cell_at.bn .nil pass0 (qpa2 (qpv 0) ns_Name qpe_int ns_Constant)) qpe_int) ns_BinOp)))
      (qps_if (qPWpt (qpw_or (qpt_not (qpt_val (qpe_call (ok_law_alike T) (hr.mono (by decide)) rfl T.law_alike.mg T.law_alike.fn.kp T.law_alike.bn .nil pass0 (qpa2 (qpe_call (ok_area T) (hr.mono (by decide)) rfl T.area.mg T.area.fn.kp T.area.bn .nil pass0 (qpa1 (qpe_call (ok_law_land T) (hr.mono (by decide)) rfl T.law_land.mg T.law_land.fn.kp T.law_land.bn .nil pass0 (qpa2 (qpv 9) ns_Name (qpv 2) ns_Name)) ns_Call)) ns_Call (qpe_call (ok_law_area T) (hr.mono (by decide)) rfl T.law_area.mg T.law_area.fn.kp T.law_area.bn .nil pass0 (qpa2 (qpv 9) ns_Name (qpv 2) ns_Name)) ns_Call)))) (qpw_or1 (qpt_cmpR (op_neD (hu64 hr)) (qpv 4) (qpv 3) (nomark _))))) (qpss_one (qps_ret qpe_bl)) qpss_nil)
      (qps_expr (qpe_bm0 PySem.F.plainAttrs_list PySem.F.slot_list_clear PySem.F.type_list_clear mt_clear (qpv 4)))
      (qps_if (qPWpt (qpw_or (qpt_not (qpt_val (qpe_call (ok_law_alike T) (hr.mono (by decide)) rfl T.law_alike.mg T.law_alike.fn.kp T.law_alike.bn .nil pass0 (qpa2 (qpe_call (ok_area T) (hr.mono (by decide)) rfl T.area.mg T.area.fn.kp T.area.bn .nil pass0 (qpa1 (qpv 4) ns_Name)) ns_Call (qpe_tup (qpa2 qpe_int ns_Constant qpe_int ns_Constant)) ns_Tuple)))) (qpw_or1 (qpt_not (qpt_val (qpe_call (ok_law_alike T) (hr.mono (by decide)) rfl T.law_alike.mg T.law_alike.fn.kp T.law_alike.bn .nil pass0 (qpa2 (qpe_call (ok_whereX T) (hr.mono (by decide)) rfl T.whereX.mg T.whereX.fn.kp T.whereX.bn .nil pass0 (qpa2 (qpv 4) ns_Name (qpe_tup (qpa3 qpe_int ns_Constant qpe_int ns_Constant qpe_int ns_Constant)) ns_Tuple)) ns_Call (qpe_un un_neg qpe_int) ns_UnaryOp))))))) (qpss_one (qps_ret qpe_bl)) qpss_nil)
      (qps_ret (qpe_call (ok_law_alike T) (hr.mono (by decide)) rfl T.law_alike.mg T.law_alike.fn.kp T.law_alike.bn .nil pass0 (qpa2 (qpe_call (ok_area T) (hr.mono (by decide)) rfl T.area.mg T.area.fn.kp T.area.bn .nil pass0 (qpa1 (qpv 3) ns_Name)) ns_Call (qpv 5) ns_Name))))
    , ?_⟩
  clear  qpss12 qps_set qpe_call qpa1 qpe_op qpa2 qpv qpe_int qpe_callTy qps_if qpt_not qpt_val qpss_one qps_ret qpe_bl qpss_nil qps_for qpi_range1 qpg_name qpss3 qpa4 qpa3 qPWpt qpw_or qpw_or1 qpt_cmpR qps_expr qpe_bm0 qpe_tup qpe_un QE QT QW QA QS QSs QG QGs QI QO QIf
  simp only [sp_cell, tSeq, tNext, tRet, tRetN, tIfS, tAsg, gName, tDrop, tVar, tC, tOp, tUn, rI, rI0, rU, rEq, rNe, tTest, tB, tNot, tAnd, tOr, tAndV, tOrV, tNotV, tIf, tCB, tCall, tNil, tCons, tTup, tLst, gTup, gCons, gNil, L2.start, rIsi, rIxT, rIxL, cx_K, tyN_non, tyN_bl, tyN_int, tyN_str, isi_ii, isi_ib, isi_it, isi_il, isi_bi, isi_bb, isi_tt, isi_ni, isi_si, isi_ti, isi_li, isi_di, isi_ll, scal_ii, scal_bb, sz0, sz1, sz2, sz3, sz4, List.map_cons, List.map_nil, List.length_cons, List.length_nil, List.replicate, List.cons_append, List.nil_append, List.append_nil, List.getElem?_cons_zero, List.getElem?_cons_succ, List.set_cons_zero, List.set_cons_succ, Option.some.injEq, V.int.injEq, V.bl.injEq, V.ref.injEq, V.ty.injEq, List.cons.injEq, and_true, true_and, exists_eq_left, exists_eq_left', exists_and_left, exists_and_right, exists_eq, exists_eq', and_assoc, Nat.reduceAdd, Nat.reduceSub, Bool.not_true, Bool.not_false, Bool.false_eq_true, if_true, if_false, reduceIte, Nat.zero_add, decide_true, decide_false, selC, comp_K, tYes, Option.join_some, rIxTH, rIxLH, rLenH, rIsiF, at0, at1, at2, at3, at4, at5, at6, at7, at8, HO.tup.injEq, HO.lst.injEq, reduceCtorEq, false_or, or_false, tyF_non, tyF_bl, tyF_int, tyF_str, exists_const, Int.reduceAdd, Int.reduceMul, Int.reduceSub, gSub, rSetL, tSl, tPart, tNoPart, rSlH, upd_same, upd_upd, rIntB, rListH, tBM, tBM0, rAppend, rClear, tPar, gTupH]
  refine ⟨ns, hS, by decide, by decide, _, rfl, fun l bs H1 g1 hb => ?_⟩
  have hS1 := g1.seq hS
  simp only [sp_cell, tSeq, tNext, tRet, tRetN, tIfS, tAsg, gName, tDrop, tVar, tC, tOp, tUn, rI, rI0, rU, rEq, rNe, tTest, tB, tNot, tAnd, tOr, tAndV, tOrV, tNotV, tIf, tCB, tCall, tNil, tCons, tTup, tLst, gTup, gCons, gNil, L2.start, rIsi, rIxT, rIxL, cx_K, tyN_non, tyN_bl, tyN_int, tyN_str, isi_ii, isi_ib, isi_it, isi_il, isi_bi, isi_bb, isi_tt, isi_ni, isi_si, isi_ti, isi_li, isi_di, isi_ll, scal_ii, scal_bb, sz0, sz1, sz2, sz3, sz4, List.map_cons, List.map_nil, List.length_cons, List.length_nil, List.replicate, List.cons_append, List.nil_append, List.append_nil, List.getElem?_cons_zero, List.getElem?_cons_succ, List.set_cons_zero, List.set_cons_succ, Option.some.injEq, V.int.injEq, V.bl.injEq, V.ref.injEq, V.ty.injEq, List.cons.injEq, and_true, true_and, exists_eq_left, exists_eq_left', exists_and_left, exists_and_right, exists_eq, exists_eq', and_assoc, Nat.reduceAdd, Nat.reduceSub, Bool.not_true, Bool.not_false, Bool.false_eq_true, if_true, if_false, reduceIte, Nat.zero_add, decide_true, decide_false, selC, comp_K, tYes, Option.join_some, rIxTH, rIxLH, rLenH, rIsiF, at0, at1, at2, at3, at4, at5, at6, at7, at8, HO.tup.injEq, HO.lst.injEq, reduceCtorEq, false_or, or_false, tyF_non, tyF_bl, tyF_int, tyF_str, exists_const, Int.reduceAdd, Int.reduceMul, Int.reduceSub, gSub, rSetL, tSl, tPart, tNoPart, rSlH, upd_same, upd_upd, rIntB, rListH, tBM, tBM0, rAppend, rClear, tPar, gTupH]
  refine ⟨ns, hS1, by decide, _, rfl, fun p M H2 g2 hp => ?_⟩
  have hS2 := g2.seq hS1
  have hM := hp.2
  simp only [tSeq, tNext, tRet, tRetN, tIfS, tAsg, gName, tDrop, tVar, tC, tOp, tUn, rI, rI0, rU, rEq, rNe, tTest, tB, tNot, tAnd, tOr, tAndV, tOrV, tNotV, tIf, tCB, tCall, tNil, tCons, tTup, tLst, gTup, gCons, gNil, L2.start, rIsi, rIxT, rIxL, cx_K, tyN_non, tyN_bl, tyN_int, tyN_str, isi_ii, isi_ib, isi_it, isi_il, isi_bi, isi_bb, isi_tt, isi_ni, isi_si, isi_ti, isi_li, isi_di, isi_ll, scal_ii, scal_bb, sz0, sz1, sz2, sz3, sz4, List.map_cons, List.map_nil, List.length_cons, List.length_nil, List.replicate, List.cons_append, List.nil_append, List.append_nil, List.getElem?_cons_zero, List.getElem?_cons_succ, List.set_cons_zero, List.set_cons_succ, Option.some.injEq, V.int.injEq, V.bl.injEq, V.ref.injEq, V.ty.injEq, List.cons.injEq, and_true, true_and, exists_eq_left, exists_eq_left', exists_and_left, exists_and_right, exists_eq, exists_eq', and_assoc, Nat.reduceAdd, Nat.reduceSub, Bool.not_true, Bool.not_false, Bool.false_eq_true, if_true, if_false, reduceIte, Nat.zero_add, decide_true, decide_false, selC, comp_K, tYes, Option.join_some, rIxTH, rIxLH, rLenH, rIsiF, at0, at1, at2, at3, at4, at5, at6, at7, at8, HO.tup.injEq, HO.lst.injEq, reduceCtorEq, false_or, or_false, tyF_non, tyF_bl, tyF_int, tyF_str, exists_const, Int.reduceAdd, Int.reduceMul, Int.reduceSub, gSub, rSetL, tSl, tPart, tNoPart, rSlH, upd_same, upd_upd, rIntB, rListH, tBM, tBM0, rAppend, rClear, tPar, gTupH]
  refine ⟨l, p, bs, M, rfl, hb.same g2, hp, fun D zs ws H3 hD g3 ld => ?_⟩
  obtain ⟨hD3, pw, st⟩ := ld
  have lo := ld_ok hM pw
  have zl : zs.length ≤ 40 := by rw [st.1, List.length_map]; exact lo.len
  simp only [tSeq, tNext, tRet, tRetN, tIfS, tAsg, gName, tDrop, tVar, tC, tOp, tUn, rI, rI0, rU, rEq, rNe, tTest, tB, tNot, tAnd, tOr, tAndV, tOrV, tNotV, tIf, tCB, tCall, tNil, tCons, tTup, tLst, gTup, gCons, gNil, L2.start, rIsi, rIxT, rIxL, cx_K, tyN_non, tyN_bl, tyN_int, tyN_str, isi_ii, isi_ib, isi_it, isi_il, isi_bi, isi_bb, isi_tt, isi_ni, isi_si, isi_ti, isi_li, isi_di, isi_ll, scal_ii, scal_bb, sz0, sz1, sz2, sz3, sz4, List.map_cons, List.map_nil, List.length_cons, List.length_nil, List.replicate, List.cons_append, List.nil_append, List.append_nil, List.getElem?_cons_zero, List.getElem?_cons_succ, List.set_cons_zero, List.set_cons_succ, Option.some.injEq, V.int.injEq, V.bl.injEq, V.ref.injEq, V.ty.injEq, List.cons.injEq, and_true, true_and, exists_eq_left, exists_eq_left', exists_and_left, exists_and_right, exists_eq, exists_eq', and_assoc, Nat.reduceAdd, Nat.reduceSub, Bool.not_true, Bool.not_false, Bool.false_eq_true, if_true, if_false, reduceIte, Nat.zero_add, decide_true, decide_false, selC, comp_K, tYes, Option.join_some, rIxTH, rIxLH, rLenH, rIsiF, at0, at1, at2, at3, at4, at5, at6, at7, at8, HO.tup.injEq, HO.lst.injEq, reduceCtorEq, false_or, or_false, tyF_non, tyF_bl, tyF_int, tyF_str, exists_const, Int.reduceAdd, Int.reduceMul, Int.reduceSub, gSub, rSetL, tSl, tPart, tNoPart, rSlH, upd_same, upd_upd, rIntB, rListH, tBM, tBM0, rAppend, rClear, tPar, gTupH, hD3]
  intro N hN
  have g4 := same_new hN (HO.lst zs)
  have hN4 : upd H3 N (HO.lst zs) N = some (HO.lst zs) := upd_same
  have nN : D ≠ N := ne_of_none hD3 hN
  have hD4 := g4 _ _ hD3
  have st4 := st.ts (ts_same g4)
  have hb4 := hb.same (g2.trans (g3.trans g4))
  have hp4 := hp.same (g3.trans g4)
  have hS4 := (g3.trans g4).seq hS2
  generalize upd H3 N (HO.lst zs) = H4 at *
  refine ⟨N, zs, _, _, _, rfl, hN4, by omega, st4, lo.sz, lo.ar, lo.sum, fun r H5 g5 hr => ?_⟩
  have hr5 := area_is hb.2 hM pw hr
  refine ⟨l, p, bs, M, rfl, hb4.same g5, hp4.same g5, fun r' H6 g6 hr' => ?_⟩
  refine ⟨_, _, rfl, al_two (g6 _ _ hr5) hr', _, rfl, iteF ?_⟩
  have g46 := g5.trans g6
  have hr6 := g6 _ _ hr5
  refine tFor_mk ?_
  simp only [iRng1, tSeq, tNext, tRet, tRetN, tIfS, tAsg, gName, tDrop, tVar, tC, tOp, tUn, rI, rI0, rU, rEq, rNe, tTest, tB, tNot, tAnd, tOr, tAndV, tOrV, tNotV, tIf, tCB, tCall, tNil, tCons, tTup, tLst, gTup, gCons, gNil, L2.start, rIsi, rIxT, rIxL, cx_K, tyN_non, tyN_bl, tyN_int, tyN_str, isi_ii, isi_ib, isi_it, isi_il, isi_bi, isi_bb, isi_tt, isi_ni, isi_si, isi_ti, isi_li, isi_di, isi_ll, scal_ii, scal_bb, sz0, sz1, sz2, sz3, sz4, List.map_cons, List.map_nil, List.length_cons, List.length_nil, List.replicate, List.cons_append, List.nil_append, List.append_nil, List.getElem?_cons_zero, List.getElem?_cons_succ, List.set_cons_zero, List.set_cons_succ, Option.some.injEq, V.int.injEq, V.bl.injEq, V.ref.injEq, V.ty.injEq, List.cons.injEq, and_true, true_and, exists_eq_left, exists_eq_left', exists_and_left, exists_and_right, exists_eq, exists_eq', and_assoc, Nat.reduceAdd, Nat.reduceSub, Bool.not_true, Bool.not_false, Bool.false_eq_true, if_true, if_false, reduceIte, Nat.zero_add, decide_true, decide_false, selC, comp_K, tYes, Option.join_some, rIxTH, rIxLH, rLenH, rIsiF, at0, at1, at2, at3, at4, at5, at6, at7, at8, HO.tup.injEq, HO.lst.injEq, reduceCtorEq, false_or, or_false, tyF_non, tyF_bl, tyF_int, tyF_str, exists_const, Int.reduceAdd, Int.reduceMul, Int.reduceSub, gSub, rSetL, tSl, tPart, tNoPart, rSlH, upd_same, upd_upd, rIntB, rListH, tBM, tBM0, rAppend, rClear, tPar, gTupH]
  refine ⟨by decide, by decide, for_range (fun _ σ H' => Same H6 H' ∧ ∃ o1 o2 o3, σ = [some (V.ref a0), some (V.ref l), some (V.ref p), some (V.ref D), some (V.ref N), some (V.ref r), o1, o2, o3, none]) ⟨.refl _, none, none, none, rfl⟩ ?_ ?_⟩
  · rintro i σ H7 hi ⟨g7, o1, o2, o3, rfl⟩
    have g47 := g46.trans g7
    simp only [sp_cell, tSeq, tNext, tRet, tRetN, tIfS, tAsg, gName, tDrop, tVar, tC, tOp, tUn, rI, rI0, rU, rEq, rNe, tTest, tB, tNot, tAnd, tOr, tAndV, tOrV, tNotV, tIf, tCB, tCall, tNil, tCons, tTup, tLst, gTup, gCons, gNil, L2.start, rIsi, rIxT, rIxL, cx_K, tyN_non, tyN_bl, tyN_int, tyN_str, isi_ii, isi_ib, isi_it, isi_il, isi_bi, isi_bb, isi_tt, isi_ni, isi_si, isi_ti, isi_li, isi_di, isi_ll, scal_ii, scal_bb, sz0, sz1, sz2, sz3, sz4, List.map_cons, List.map_nil, List.length_cons, List.length_nil, List.replicate, List.cons_append, List.nil_append, List.append_nil, List.getElem?_cons_zero, List.getElem?_cons_succ, List.set_cons_zero, List.set_cons_succ, Option.some.injEq, V.int.injEq, V.bl.injEq, V.ref.injEq, V.ty.injEq, List.cons.injEq, and_true, true_and, exists_eq_left, exists_eq_left', exists_and_left, exists_and_right, exists_eq, exists_eq', and_assoc, Nat.reduceAdd, Nat.reduceSub, Bool.not_true, Bool.not_false, Bool.false_eq_true, if_true, if_false, reduceIte, Nat.zero_add, decide_true, decide_false, selC, comp_K, tYes, Option.join_some, rIxTH, rIxLH, rLenH, rIsiF, at0, at1, at2, at3, at4, at5, at6, at7, at8, HO.tup.injEq, HO.lst.injEq, reduceCtorEq, false_or, or_false, tyF_non, tyF_bl, tyF_int, tyF_str, exists_const, Int.reduceAdd, Int.reduceMul, Int.reduceSub, gSub, rSetL, tSl, tPart, tNoPart, rSlH, upd_same, upd_upd, rIntB, rListH, tBM, tBM0, rAppend, rClear, tPar, gTupH, Int.zero_add]
    refine ⟨ns, g47.seq hS4, by omega, by decide, ⟨by decide, by decide⟩, by decide, ?_⟩
    generalize ns.getD (3 + (i : Int)).toNat 0 = c
    have bx : -1 ≤ c % 11 - 1 ∧ c % 11 - 1 ≤ 9 := by omega
    have by' : -1 ≤ c / 11 % 11 - 1 ∧ c / 11 % 11 - 1 ≤ 9 := by omega
    generalize c % 11 - 1 = X at *
    generalize c / 11 % 11 - 1 = Y at *
    refine ⟨p, M, X, Y, 2, rfl, hp4.same g47, by omega, by omega, by decide, fun s1 H8 g8 hs1 => ?_⟩
    refine ⟨s1, _, rfl, hs1, fun s2 H9 g9 hs2 => ?_⟩
    have g49 := g47.trans (g8.trans g9)
    have wd := where_due (inB_in bs) hM bx by' pw
    refine ⟨N, s2, zs, _, _, rfl, g49 _ _ hN4, by omega, st4.ts (ts_same g49), lo.ap, ⟨hs2, bd_of (lo_lt hM (by omega) (by omega) (by decide))⟩, fun H10 g10 => ?_⟩
    refine ⟨by decide, ⟨by decide, by decide⟩, by decide, l, bs, X, Y, rfl, hb4.same (g49.trans g10), fun H11 g11 => ?_⟩
    refine ⟨_, _, rfl, ?_, _, rfl, iteF (g7.trans (g8.trans (g9.trans (g10.trans g11))))⟩
    rw [wd]
    exact al_int _
  · rintro σ H7 ⟨g7, o1, o2, o3, rfl⟩
    have g47 := g46.trans g7
    simp only [sp_cell, tSeq, tNext, tRet, tRetN, tIfS, tAsg, gName, tDrop, tVar, tC, tOp, tUn, rI, rI0, rU, rEq, rNe, tTest, tB, tNot, tAnd, tOr, tAndV, tOrV, tNotV, tIf, tCB, tCall, tNil, tCons, tTup, tLst, gTup, gCons, gNil, L2.start, rIsi, rIxT, rIxL, cx_K, tyN_non, tyN_bl, tyN_int, tyN_str, isi_ii, isi_ib, isi_it, isi_il, isi_bi, isi_bb, isi_tt, isi_ni, isi_si, isi_ti, isi_li, isi_di, isi_ll, scal_ii, scal_bb, sz0, sz1, sz2, sz3, sz4, List.map_cons, List.map_nil, List.length_cons, List.length_nil, List.replicate, List.cons_append, List.nil_append, List.append_nil, List.getElem?_cons_zero, List.getElem?_cons_succ, List.set_cons_zero, List.set_cons_succ, Option.some.injEq, V.int.injEq, V.bl.injEq, V.ref.injEq, V.ty.injEq, List.cons.injEq, and_true, true_and, exists_eq_left, exists_eq_left', exists_and_left, exists_and_right, exists_eq, exists_eq', and_assoc, Nat.reduceAdd, Nat.reduceSub, Bool.not_true, Bool.not_false, Bool.false_eq_true, if_true, if_false, reduceIte, Nat.zero_add, decide_true, decide_false, selC, comp_K, tYes, Option.join_some, rIxTH, rIxLH, rLenH, rIsiF, at0, at1, at2, at3, at4, at5, at6, at7, at8, HO.tup.injEq, HO.lst.injEq, reduceCtorEq, false_or, or_false, tyF_non, tyF_bl, tyF_int, tyF_str, exists_const, Int.reduceAdd, Int.reduceMul, Int.reduceSub, gSub, rSetL, tSl, tPart, tNoPart, rSlH, upd_same, upd_upd, rIntB, rListH, tBM, tBM0, rAppend, rClear, tPar, gTupH]
    refine ⟨ns, g47.seq hS4, by decide, by decide, _, rfl, fun l2 bs2 H8 g8 hb8 => ?_⟩
    have g48 := g47.trans g8
    refine ⟨l2, p, bs2, M, rfl, hb8, hp4.same g48, fun D2 zs2 ws2 H9 hD2 g9 ld2 => ?_⟩
    obtain ⟨hD29, pw2, st2⟩ := ld2
    have lo2 := ld_ok hM pw2
    have zl2 : zs2.length ≤ 40 := by rw [st2.1, List.length_map]; exact lo2.len
    refine ⟨D2, zs2, _, _, _, rfl, hD29, by omega, st2, lo2.sz, lo2.ar, lo2.sum, fun r2 H10 g10 hr2 => ?_⟩
    have hr2' := area_is hb8.2 hM pw2 hr2
    have g4a := g48.trans (g9.trans g10)
    refine ⟨l2, p, bs2, M, rfl, hb8.same (g9.trans g10), hp4.same g4a, fun r3 H11 g11 hr3 => ?_⟩
    have g4b := g4a.trans g11
    refine ⟨_, _, rfl, al_two (g11 _ _ hr2') hr3, _, rfl, iteF ?_⟩
    have stb := st4.ts (ts_same g4b)
    refine ⟨_, _, rd_stl (g4b _ _ hN4) stb, rd_stl (g4b _ _ hD4) stb, stl_shaped _, stl_shaped _, _, rfl, ?_⟩
    rw [stl_eqv]
    have hNb := g4b _ _ hN4
    have hDb := g4b _ _ hD4
    have hrb : H11 r = some (.tup [.int (arV bs M).t, .int (arV bs M).b]) := g11 _ _ (g10 _ _ (g9 _ _ (g8 _ _ (g7 _ _ hr6))))
    refine iteF ⟨tyV_of hNb, ⟨_, hNb⟩, ?_⟩
    have tc := ts_put (o := HO.lst []) hNb
    have hN12 : upd H11 N (HO.lst []) N = some (HO.lst []) := upd_same
    have hD12 : upd H11 N (HO.lst []) D = some (HO.lst zs) := by rw [upd_ne nN]; exact hDb
    have st12 := stb.ts tc
    have hr12 := tc _ _ hrb
    generalize upd H11 N (HO.lst []) = H12 at *
    refine ⟨N, [], [], 1, [], rfl, hN12, by decide, .nil, ⟨by decide, by decide⟩, ⟨rfl, fun j d n h => by cases h⟩, by decide, fun r4 H13 g13 hr4 => ?_⟩
    have hr4' := area_nil hr4
    intro q1 hq1
    have g14 := same_new hq1 (HO.tup [V.int 0, V.int 1])
    have u14 : upd H13 q1 (HO.tup [V.int 0, V.int 1]) q1 = some (HO.tup [V.int 0, V.int 1]) := upd_same
    have hr14 := g14 _ _ hr4'
    generalize upd H13 q1 (HO.tup [V.int 0, V.int 1]) = H14 at *
    refine ⟨_, _, rfl, al_two hr14 u14, _, rfl, iteF ?_⟩
    intro q2 hq2
    have g15 := same_new hq2 (HO.tup [V.int 0, V.int 0, V.int 1])
    have u15 : upd H14 q2 (HO.tup [V.int 0, V.int 0, V.int 1]) q2 = some (HO.tup [V.int 0, V.int 0, V.int 1]) := upd_same
    generalize upd H14 q2 (HO.tup [V.int 0, V.int 0, V.int 1]) = H15 at *
    have g12 := g13.trans (g14.trans g15)
    refine ⟨N, q2, [], [], ⟨0, 0, 1⟩, rfl, g12 _ _ hN12, by decide, .nil, fun j d h => (by cases h), ⟨u15, bd_of ⟨by decide, by decide, by decide⟩⟩, fun H16 g16 => ?_⟩
    have g126 := g12.trans g16
    refine ⟨_, _, rfl, al_int (-1), _, rfl, iteF ?_⟩
    refine ⟨D, zs, _, _, _, rfl, g126 _ _ hD12, by omega, st12.ts (ts_same g126), lo.sz, lo.ar, lo.sum, fun r5 H17 g17 hr5 => ?_⟩
    have hr5' := area_is hb.2 hM pw hr5
    exact ⟨_, _, rfl, al_two hr5' (g17 _ _ (g126 _ _ hr12)), k _⟩
end
theorem all_mk {l : PySem.W.OpenLaw} {w : World} {K : PySem.W.Frag} {h : Heap} {mg : Str → Option Value} {fa f0 f1 f2 f3 f4 f5 f6 f7 f8 f9 f10 f11 f12 f13 f14 f15 f16 f17 f18 f19 f20 f21 f22 f23 f24 f25 f26 f27 f28 f29 f30 f31 f32 f33 : Addr} (X : K.In h) (G : h.Ns mainGlobals mg) (hfa : mg "law" = some (.ref fa))
    {od0 an0 : Option Addr} {sl0 : Array (Option Value)} {oc0 kV0 dc0 pm0 cd0 ct0 : Value}
    {od1 an1 : Option Addr} {sl1 : Array (Option Value)} {oc1 kV1 dc1 pm1 cd1 ct1 : Value}
    {od2 an2 : Option Addr} {sl2 : Array (Option Value)} {oc2 kV2 dc2 pm2 cd2 ct2 : Value}
    {od3 an3 : Option Addr} {sl3 : Array (Option Value)} {oc3 kV3 dc3 pm3 cd3 ct3 : Value}
    {od4 an4 : Option Addr} {sl4 : Array (Option Value)} {oc4 kV4 dc4 pm4 cd4 ct4 : Value}
    {od5 an5 : Option Addr} {sl5 : Array (Option Value)} {oc5 kV5 dc5 pm5 cd5 ct5 : Value}
    {od6 an6 : Option Addr} {sl6 : Array (Option Value)} {oc6 kV6 dc6 pm6 cd6 ct6 : Value}
    {od7 an7 : Option Addr} {sl7 : Array (Option Value)} {oc7 kV7 dc7 pm7 cd7 ct7 : Value}
    {od8 an8 : Option Addr} {sl8 : Array (Option Value)} {oc8 kV8 dc8 pm8 cd8 ct8 : Value}
    {od9 an9 : Option Addr} {sl9 : Array (Option Value)} {oc9 kV9 dc9 pm9 cd9 ct9 : Value}
    {od10 an10 : Option Addr} {sl10 : Array (Option Value)} {oc10 kV10 dc10 pm10 cd10 ct10 : Value}
    {od11 an11 : Option Addr} {sl11 : Array (Option Value)} {oc11 kV11 dc11 pm11 cd11 ct11 : Value}
    {od12 an12 : Option Addr} {sl12 : Array (Option Value)} {oc12 kV12 dc12 pm12 cd12 ct12 : Value}
    {od13 an13 : Option Addr} {sl13 : Array (Option Value)} {oc13 kV13 dc13 pm13 cd13 ct13 : Value}
    {od14 an14 : Option Addr} {sl14 : Array (Option Value)} {oc14 kV14 dc14 pm14 cd14 ct14 : Value}
    {od15 an15 : Option Addr} {sl15 : Array (Option Value)} {oc15 kV15 dc15 pm15 cd15 ct15 : Value}
    {od16 an16 : Option Addr} {sl16 : Array (Option Value)} {oc16 kV16 dc16 pm16 cd16 ct16 : Value}
    {od17 an17 : Option Addr} {sl17 : Array (Option Value)} {oc17 kV17 dc17 pm17 cd17 ct17 : Value}
    {od18 an18 : Option Addr} {sl18 : Array (Option Value)} {oc18 kV18 dc18 pm18 cd18 ct18 : Value}
    {od19 an19 : Option Addr} {sl19 : Array (Option Value)} {oc19 kV19 dc19 pm19 cd19 ct19 : Value}
    {od20 an20 : Option Addr} {sl20 : Array (Option Value)} {oc20 kV20 dc20 pm20 cd20 ct20 : Value}
    {od21 an21 : Option Addr} {sl21 : Array (Option Value)} {oc21 kV21 dc21 pm21 cd21 ct21 : Value}
    {od22 an22 : Option Addr} {sl22 : Array (Option Value)} {oc22 kV22 dc22 pm22 cd22 ct22 : Value}
    {od23 an23 : Option Addr} {sl23 : Array (Option Value)} {oc23 kV23 dc23 pm23 cd23 ct23 : Value}
    {od24 an24 : Option Addr} {sl24 : Array (Option Value)} {oc24 kV24 dc24 pm24 cd24 ct24 : Value}
    {od25 an25 : Option Addr} {sl25 : Array (Option Value)} {oc25 kV25 dc25 pm25 cd25 ct25 : Value}
    {od26 an26 : Option Addr} {sl26 : Array (Option Value)} {oc26 kV26 dc26 pm26 cd26 ct26 : Value}
    {od27 an27 : Option Addr} {sl27 : Array (Option Value)} {oc27 kV27 dc27 pm27 cd27 ct27 : Value}
    {od28 an28 : Option Addr} {sl28 : Array (Option Value)} {oc28 kV28 dc28 pm28 cd28 ct28 : Value}
    {od29 an29 : Option Addr} {sl29 : Array (Option Value)} {oc29 kV29 dc29 pm29 cd29 ct29 : Value}
    {od30 an30 : Option Addr} {sl30 : Array (Option Value)} {oc30 kV30 dc30 pm30 cd30 ct30 : Value}
    {od31 an31 : Option Addr} {sl31 : Array (Option Value)} {oc31 kV31 dc31 pm31 cd31 ct31 : Value}
    {od32 an32 : Option Addr} {sl32 : Array (Option Value)} {oc32 kV32 dc32 pm32 cd32 ct32 : Value}
    {od33 an33 : Option Addr} {sl33 : Array (Option Value)} {oc33 kV33 dc33 pm33 cd33 ct33 : Value}
    (a0 : PySem.W.nsIn K mainGlobals "is_whole" = some (some (.ref f0))) (l0 : K.lookup f0 = some ⟨oc0, od0, .func (PySem.W.fnOf "is_whole" "is_whole" (defArgs s_is_whole) (defBody s_is_whole) (defScope s_is_whole) .none kV0 dc0 pm0 an0 cd0 ct0), sl0⟩) (c0 : PySem.W.codeIn K cd0 "is_whole" = true) (k0 : PySem.W.keepIn K (.ref f0) = true)
    (a1 : PySem.W.nsIn K mainGlobals "divisor" = some (some (.ref f1))) (l1 : K.lookup f1 = some ⟨oc1, od1, .func (PySem.W.fnOf "divisor" "divisor" (defArgs s_divisor) (defBody s_divisor) (defScope s_divisor) .none kV1 dc1 pm1 an1 cd1 ct1), sl1⟩) (c1 : PySem.W.codeIn K cd1 "divisor" = true) (k1 : PySem.W.keepIn K (.ref f1) = true)
    (a2 : PySem.W.nsIn K mainGlobals "fraction" = some (some (.ref f2))) (l2 : K.lookup f2 = some ⟨oc2, od2, .func (PySem.W.fnOf "fraction" "fraction" (defArgs s_fraction) (defBody s_fraction) (defScope s_fraction) .none kV2 dc2 pm2 an2 cd2 ct2), sl2⟩) (c2 : PySem.W.codeIn K cd2 "fraction" = true) (k2 : PySem.W.keepIn K (.ref f2) = true)
    (a3 : PySem.W.nsIn K mainGlobals "plus" = some (some (.ref f3))) (l3 : K.lookup f3 = some ⟨oc3, od3, .func (PySem.W.fnOf "plus" "plus" (defArgs s_plus) (defBody s_plus) (defScope s_plus) .none kV3 dc3 pm3 an3 cd3 ct3), sl3⟩) (c3 : PySem.W.codeIn K cd3 "plus" = true) (k3 : PySem.W.keepIn K (.ref f3) = true)
    (a4 : PySem.W.nsIn K mainGlobals "half" = some (some (.ref f4))) (l4 : K.lookup f4 = some ⟨oc4, od4, .func (PySem.W.fnOf "half" "half" (defArgs s_half) (defBody s_half) (defScope s_half) .none kV4 dc4 pm4 an4 cd4 ct4), sl4⟩) (c4 : PySem.W.codeIn K cd4 "half" = true) (k4 : PySem.W.keepIn K (.ref f4) = true)
    (a5 : PySem.W.nsIn K mainGlobals "total" = some (some (.ref f5))) (l5 : K.lookup f5 = some ⟨oc5, od5, .func (PySem.W.fnOf "total" "total" (defArgs s_total) (defBody s_total) (defScope s_total) .none kV5 dc5 pm5 an5 cd5 ct5), sl5⟩) (c5 : PySem.W.codeIn K cd5 "total" = true) (k5 : PySem.W.keepIn K (.ref f5) = true)
    (a6 : PySem.W.nsIn K mainGlobals "before" = some (some (.ref f6))) (l6 : K.lookup f6 = some ⟨oc6, od6, .func (PySem.W.fnOf "before" "before" (defArgs s_before) (defBody s_before) (defScope s_before) .none kV6 dc6 pm6 an6 cd6 ct6), sl6⟩) (c6 : PySem.W.codeIn K cd6 "before" = true) (k6 : PySem.W.keepIn K (.ref f6) = true)
    (a7 : PySem.W.nsIn K mainGlobals "sign_of" = some (some (.ref f7))) (l7 : K.lookup f7 = some ⟨oc7, od7, .func (PySem.W.fnOf "sign_of" "sign_of" (defArgs s_sign_of) (defBody s_sign_of) (defScope s_sign_of) .none kV7 dc7 pm7 an7 cd7 ct7), sl7⟩) (c7 : PySem.W.codeIn K cd7 "sign_of" = true) (k7 : PySem.W.keepIn K (.ref f7) = true)
    (a8 : PySem.W.nsIn K mainGlobals "line_of" = some (some (.ref f8))) (l8 : K.lookup f8 = some ⟨oc8, od8, .func (PySem.W.fnOf "line_of" "line_of" (defArgs s_line_of) (defBody s_line_of) (defScope s_line_of) .none kV8 dc8 pm8 an8 cd8 ct8), sl8⟩) (c8 : PySem.W.codeIn K cd8 "line_of" = true) (k8 : PySem.W.keepIn K (.ref f8) = true)
    (a9 : PySem.W.nsIn K mainGlobals "side_of" = some (some (.ref f9))) (l9 : K.lookup f9 = some ⟨oc9, od9, .func (PySem.W.fnOf "side_of" "side_of" (defArgs s_side_of) (defBody s_side_of) (defScope s_side_of) .none kV9 dc9 pm9 an9 cd9 ct9), sl9⟩) (c9 : PySem.W.codeIn K cd9 "side_of" = true) (k9 : PySem.W.keepIn K (.ref f9) = true)
    (a10 : PySem.W.nsIn K mainGlobals "turn" = some (some (.ref f10))) (l10 : K.lookup f10 = some ⟨oc10, od10, .func (PySem.W.fnOf "turn" "turn" (defArgs s_turn) (defBody s_turn) (defScope s_turn) .none kV10 dc10 pm10 an10 cd10 ct10), sl10⟩) (c10 : PySem.W.codeIn K cd10 "turn" = true) (k10 : PySem.W.keepIn K (.ref f10) = true)
    (a11 : PySem.W.nsIn K mainGlobals "stretch" = some (some (.ref f11))) (l11 : K.lookup f11 = some ⟨oc11, od11, .func (PySem.W.fnOf "stretch" "stretch" (defArgs s_stretch) (defBody s_stretch) (defScope s_stretch) .none kV11 dc11 pm11 an11 cd11 ct11), sl11⟩) (c11 : PySem.W.codeIn K cd11 "stretch" = true) (k11 : PySem.W.keepIn K (.ref f11) = true)
    (a12 : PySem.W.nsIn K mainGlobals "stretches_of" = some (some (.ref f12))) (l12 : K.lookup f12 = some ⟨oc12, od12, .func (PySem.W.fnOf "stretches_of" "stretches_of" (defArgs s_stretches_of) (defBody s_stretches_of) (defScope s_stretches_of) .none kV12 dc12 pm12 an12 cd12 ct12), sl12⟩) (c12 : PySem.W.codeIn K cd12 "stretches_of" = true) (k12 : PySem.W.keepIn K (.ref f12) = true)
    (a13 : PySem.W.nsIn K mainGlobals "lies_on" = some (some (.ref f13))) (l13 : K.lookup f13 = some ⟨oc13, od13, .func (PySem.W.fnOf "lies_on" "lies_on" (defArgs s_lies_on) (defBody s_lies_on) (defScope s_lies_on) .none kV13 dc13 pm13 an13 cd13 ct13), sl13⟩) (c13 : PySem.W.codeIn K cd13 "lies_on" = true) (k13 : PySem.W.keepIn K (.ref f13) = true)
    (a14 : PySem.W.nsIn K mainGlobals "above" = some (some (.ref f14))) (l14 : K.lookup f14 = some ⟨oc14, od14, .func (PySem.W.fnOf "above" "above" (defArgs s_above) (defBody s_above) (defScope s_above) .none kV14 dc14 pm14 an14 cd14 ct14), sl14⟩) (c14 : PySem.W.codeIn K cd14 "above" = true) (k14 : PySem.W.keepIn K (.ref f14) = true)
    (a15 : PySem.W.nsIn K mainGlobals "spans" = some (some (.ref f15))) (l15 : K.lookup f15 = some ⟨oc15, od15, .func (PySem.W.fnOf "spans" "spans" (defArgs s_spans) (defBody s_spans) (defScope s_spans) .none kV15 dc15 pm15 an15 cd15 ct15), sl15⟩) (c15 : PySem.W.codeIn K cd15 "spans" = true) (k15 : PySem.W.keepIn K (.ref f15) = true)
    (a16 : PySem.W.nsIn K mainGlobals "where" = some (some (.ref f16))) (l16 : K.lookup f16 = some ⟨oc16, od16, .func (PySem.W.fnOf "where" "where" (defArgs s_whereX) (defBody s_whereX) (defScope s_whereX) .none kV16 dc16 pm16 an16 cd16 ct16), sl16⟩) (c16 : PySem.W.codeIn K cd16 "where" = true) (k16 : PySem.W.keepIn K (.ref f16) = true)
    (a17 : PySem.W.nsIn K mainGlobals "area" = some (some (.ref f17))) (l17 : K.lookup f17 = some ⟨oc17, od17, .func (PySem.W.fnOf "area" "area" (defArgs s_area) (defBody s_area) (defScope s_area) .none kV17 dc17 pm17 an17 cd17 ct17), sl17⟩) (c17 : PySem.W.codeIn K cd17 "area" = true) (k17 : PySem.W.keepIn K (.ref f17) = true)
    (a18 : PySem.W.nsIn K mainGlobals "_law_cell_at" = some (some (.ref f18))) (l18 : K.lookup f18 = some ⟨oc18, od18, .func (PySem.W.fnOf "_law_cell_at" "_law_cell_at" (defArgs s_law_cell_at) (defBody s_law_cell_at) (defScope s_law_cell_at) .none kV18 dc18 pm18 an18 cd18 ct18), sl18⟩) (c18 : PySem.W.codeIn K cd18 "_law_cell_at" = true) (k18 : PySem.W.keepIn K (.ref f18) = true)
    (a19 : PySem.W.nsIn K mainGlobals "_law_whole" = some (some (.ref f19))) (l19 : K.lookup f19 = some ⟨oc19, od19, .func (PySem.W.fnOf "_law_whole" "_law_whole" (defArgs s_law_whole) (defBody s_law_whole) (defScope s_law_whole) .none kV19 dc19 pm19 an19 cd19 ct19), sl19⟩) (c19 : PySem.W.codeIn K cd19 "_law_whole" = true) (k19 : PySem.W.keepIn K (.ref f19) = true)
    (a20 : PySem.W.nsIn K mainGlobals "_law_held" = some (some (.ref f20))) (l20 : K.lookup f20 = some ⟨oc20, od20, .func (PySem.W.fnOf "_law_held" "_law_held" (defArgs s_law_held) (defBody s_law_held) (defScope s_law_held) .none kV20 dc20 pm20 an20 cd20 ct20), sl20⟩) (c20 : PySem.W.codeIn K cd20 "_law_held" = true) (k20 : PySem.W.keepIn K (.ref f20) = true)
    (a21 : PySem.W.nsIn K mainGlobals "_law_in" = some (some (.ref f21))) (l21 : K.lookup f21 = some ⟨oc21, od21, .func (PySem.W.fnOf "_law_in" "_law_in" (defArgs s_law_in) (defBody s_law_in) (defScope s_law_in) .none kV21 dc21 pm21 an21 cd21 ct21), sl21⟩) (c21 : PySem.W.codeIn K cd21 "_law_in" = true) (k21 : PySem.W.keepIn K (.ref f21) = true)
    (a22 : PySem.W.nsIn K mainGlobals "_law_edge" = some (some (.ref f22))) (l22 : K.lookup f22 = some ⟨oc22, od22, .func (PySem.W.fnOf "_law_edge" "_law_edge" (defArgs s_law_edge) (defBody s_law_edge) (defScope s_law_edge) .none kV22 dc22 pm22 an22 cd22 ct22), sl22⟩) (c22 : PySem.W.codeIn K cd22 "_law_edge" = true) (k22 : PySem.W.keepIn K (.ref f22) = true)
    (a23 : PySem.W.nsIn K mainGlobals "_law_smooth" = some (some (.ref f23))) (l23 : K.lookup f23 = some ⟨oc23, od23, .func (PySem.W.fnOf "_law_smooth" "_law_smooth" (defArgs s_law_smooth) (defBody s_law_smooth) (defScope s_law_smooth) .none kV23 dc23 pm23 an23 cd23 ct23), sl23⟩) (c23 : PySem.W.codeIn K cd23 "_law_smooth" = true) (k23 : PySem.W.keepIn K (.ref f23) = true)
    (a24 : PySem.W.nsIn K mainGlobals "_law_leaves" = some (some (.ref f24))) (l24 : K.lookup f24 = some ⟨oc24, od24, .func (PySem.W.fnOf "_law_leaves" "_law_leaves" (defArgs s_law_leaves) (defBody s_law_leaves) (defScope s_law_leaves) .none kV24 dc24 pm24 an24 cd24 ct24), sl24⟩) (c24 : PySem.W.codeIn K cd24 "_law_leaves" = true) (k24 : PySem.W.keepIn K (.ref f24) = true)
    (a25 : PySem.W.nsIn K mainGlobals "_law_ways" = some (some (.ref f25))) (l25 : K.lookup f25 = some ⟨oc25, od25, .func (PySem.W.fnOf "_law_ways" "_law_ways" (defArgs s_law_ways) (defBody s_law_ways) (defScope s_law_ways) .none kV25 dc25 pm25 an25 cd25 ct25), sl25⟩) (c25 : PySem.W.codeIn K cd25 "_law_ways" = true) (k25 : PySem.W.keepIn K (.ref f25) = true)
    (a26 : PySem.W.nsIn K mainGlobals "_law_map" = some (some (.ref f26))) (l26 : K.lookup f26 = some ⟨oc26, od26, .func (PySem.W.fnOf "_law_map" "_law_map" (defArgs s_law_map) (defBody s_law_map) (defScope s_law_map) .none kV26 dc26 pm26 an26 cd26 ct26), sl26⟩) (c26 : PySem.W.codeIn K cd26 "_law_map" = true) (k26 : PySem.W.keepIn K (.ref f26) = true)
    (a27 : PySem.W.nsIn K mainGlobals "_law_spot" = some (some (.ref f27))) (l27 : K.lookup f27 = some ⟨oc27, od27, .func (PySem.W.fnOf "_law_spot" "_law_spot" (defArgs s_law_spot) (defBody s_law_spot) (defScope s_law_spot) .none kV27 dc27 pm27 an27 cd27 ct27), sl27⟩) (c27 : PySem.W.codeIn K cd27 "_law_spot" = true) (k27 : PySem.W.keepIn K (.ref f27) = true)
    (a28 : PySem.W.nsIn K mainGlobals "_law_low" = some (some (.ref f28))) (l28 : K.lookup f28 = some ⟨oc28, od28, .func (PySem.W.fnOf "_law_low" "_law_low" (defArgs s_law_low) (defBody s_law_low) (defScope s_law_low) .none kV28 dc28 pm28 an28 cd28 ct28), sl28⟩) (c28 : PySem.W.codeIn K cd28 "_law_low" = true) (k28 : PySem.W.keepIn K (.ref f28) = true)
    (a29 : PySem.W.nsIn K mainGlobals "_law_land" = some (some (.ref f29))) (l29 : K.lookup f29 = some ⟨oc29, od29, .func (PySem.W.fnOf "_law_land" "_law_land" (defArgs s_law_land) (defBody s_law_land) (defScope s_law_land) .none kV29 dc29 pm29 an29 cd29 ct29), sl29⟩) (c29 : PySem.W.codeIn K cd29 "_law_land" = true) (k29 : PySem.W.keepIn K (.ref f29) = true)
    (a30 : PySem.W.nsIn K mainGlobals "_law_alike" = some (some (.ref f30))) (l30 : K.lookup f30 = some ⟨oc30, od30, .func (PySem.W.fnOf "_law_alike" "_law_alike" (defArgs s_law_alike) (defBody s_law_alike) (defScope s_law_alike) .none kV30 dc30 pm30 an30 cd30 ct30), sl30⟩) (c30 : PySem.W.codeIn K cd30 "_law_alike" = true) (k30 : PySem.W.keepIn K (.ref f30) = true)
    (a31 : PySem.W.nsIn K mainGlobals "_law_area" = some (some (.ref f31))) (l31 : K.lookup f31 = some ⟨oc31, od31, .func (PySem.W.fnOf "_law_area" "_law_area" (defArgs s_law_area) (defBody s_law_area) (defScope s_law_area) .none kV31 dc31 pm31 an31 cd31 ct31), sl31⟩) (c31 : PySem.W.codeIn K cd31 "_law_area" = true) (k31 : PySem.W.keepIn K (.ref f31) = true)
    (a32 : PySem.W.nsIn K mainGlobals "_law_due" = some (some (.ref f32))) (l32 : K.lookup f32 = some ⟨oc32, od32, .func (PySem.W.fnOf "_law_due" "_law_due" (defArgs s_law_due) (defBody s_law_due) (defScope s_law_due) .none kV32 dc32 pm32 an32 cd32 ct32), sl32⟩) (c32 : PySem.W.codeIn K cd32 "_law_due" = true) (k32 : PySem.W.keepIn K (.ref f32) = true)
    (a33 : PySem.W.nsIn K mainGlobals "law" = some (some (.ref f33))) (l33 : K.lookup f33 = some ⟨oc33, od33, .func (PySem.W.fnOf "law" "law" (defArgs s_law) (defBody s_law) (defScope s_law) .none kV33 dc33 pm33 an33 cd33 ct33), sl33⟩) (c33 : PySem.W.codeIn K cd33 "law" = true) (k33 : PySem.W.keepIn K (.ref f33) = true)
    (z0 : PySem.W.nsIn K mainGlobals "abs" = some none)
    (z1 : PySem.W.nsIn K mainGlobals "any" = some none)
    (z2 : PySem.W.nsIn K mainGlobals "bool" = some none)
    (z3 : PySem.W.nsIn K mainGlobals "int" = some none)
    (z4 : PySem.W.nsIn K mainGlobals "isinstance" = some none)
    (z5 : PySem.W.nsIn K mainGlobals "len" = some none)
    (z6 : PySem.W.nsIn K mainGlobals "list" = some none)
    (z7 : PySem.W.nsIn K mainGlobals "min" = some none)
    (z8 : PySem.W.nsIn K mainGlobals "range" = some none)
    (z9 : PySem.W.nsIn K mainGlobals "sorted" = some none)
    (z10 : PySem.W.nsIn K mainGlobals "tuple" = some none)
    : ∃ fd : FuncData, (∀ (s : Shared) (v : Value), BindsTo s fd ⟨[v], []⟩ [("_law_script", v)]) ∧ ∀ base : Heap, K.In base → base.Ns mainGlobals mg → FnOk l.prog w K mg base CX0 6 fa fd ["_law_script"] (sp_law K) := by
  have e := hfa.symm.trans (PySem.W.mg_of X G a33)
  cases e
  have F0 := fun_mk (st := s_is_whole) l0 c0 k0
  have b0 := F0.binds (ps := ["thing"]) fun _ _ _ _ _ _ us hl => match us, hl with | [_], _ => rfl
  have F1 := fun_mk (st := s_divisor) l1 c1 k1
  have b1 := F1.binds (ps := ["one", "other"]) fun _ _ _ _ _ _ us hl => match us, hl with | [_, _], _ => rfl
  have F2 := fun_mk (st := s_fraction) l2 c2 k2
  have b2 := F2.binds (ps := ["top", "bottom"]) fun _ _ _ _ _ _ us hl => match us, hl with | [_, _], _ => rfl
  have F3 := fun_mk (st := s_plus) l3 c3 k3
  have b3 := F3.binds (ps := ["one", "other"]) fun _ _ _ _ _ _ us hl => match us, hl with | [_, _], _ => rfl
  have F4 := fun_mk (st := s_half) l4 c4 k4
  have b4 := F4.binds (ps := ["one"]) fun _ _ _ _ _ _ us hl => match us, hl with | [_], _ => rfl
  have F5 := fun_mk (st := s_total) l5 c5 k5
  have b5 := F5.binds (ps := ["some"]) fun _ _ _ _ _ _ us hl => match us, hl with | [_], _ => rfl
  have F6 := fun_mk (st := s_before) l6 c6 k6
  have b6 := F6.binds (ps := ["P", "Q"]) fun _ _ _ _ _ _ us hl => match us, hl with | [_, _], _ => rfl
  have F7 := fun_mk (st := s_sign_of) l7 c7 k7
  have b7 := F7.binds (ps := ["number"]) fun _ _ _ _ _ _ us hl => match us, hl with | [_], _ => rfl
  have F8 := fun_mk (st := s_line_of) l8 c8 k8
  have b8 := F8.binds (ps := ["P", "Q"]) fun _ _ _ _ _ _ us hl => match us, hl with | [_, _], _ => rfl
  have F9 := fun_mk (st := s_side_of) l9 c9 k9
  have b9 := F9.binds (ps := ["line", "P"]) fun _ _ _ _ _ _ us hl => match us, hl with | [_, _], _ => rfl
  have F10 := fun_mk (st := s_turn) l10 c10 k10
  have b10 := F10.binds (ps := ["P", "Q", "R"]) fun _ _ _ _ _ _ us hl => match us, hl with | [_, _, _], _ => rfl
  have F11 := fun_mk (st := s_stretch) l11 c11 k11
  have b11 := F11.binds (ps := ["P", "Q"]) fun _ _ _ _ _ _ us hl => match us, hl with | [_, _], _ => rfl
  have F12 := fun_mk (st := s_stretches_of) l12 c12 k12
  have b12 := F12.binds (ps := ["fences"]) fun _ _ _ _ _ _ us hl => match us, hl with | [_], _ => rfl
  have F13 := fun_mk (st := s_lies_on) l13 c13 k13
  have b13 := F13.binds (ps := ["P", "S"]) fun _ _ _ _ _ _ us hl => match us, hl with | [_, _], _ => rfl
  have F14 := fun_mk (st := s_above) l14 c14 k14
  have b14 := F14.binds (ps := ["stretches", "P"]) fun _ _ _ _ _ _ us hl => match us, hl with | [_, _], _ => rfl
  have F15 := fun_mk (st := s_spans) l15 c15 k15
  have b15 := F15.binds (ps := ["S", "P"]) fun _ _ _ _ _ _ us hl => match us, hl with | [_, _], _ => rfl
  have F16 := fun_mk (st := s_whereX) l16 c16 k16
  have b16 := F16.binds (ps := ["land", "P"]) fun _ _ _ _ _ _ us hl => match us, hl with | [_, _], _ => rfl
  have F17 := fun_mk (st := s_area) l17 c17 k17
  have b17 := F17.binds (ps := ["land"]) fun _ _ _ _ _ _ us hl => match us, hl with | [_], _ => rfl
  have F18 := fun_mk (st := s_law_cell_at) l18 c18 k18
  have b18 := F18.binds (ps := ["_law_script", "_law_k"]) fun _ _ _ _ _ _ us hl => match us, hl with | [_, _], _ => rfl
  have F19 := fun_mk (st := s_law_whole) l19 c19 k19
  have b19 := F19.binds (ps := ["_law_found"]) fun _ _ _ _ _ _ us hl => match us, hl with | [_], _ => rfl
  have F20 := fun_mk (st := s_law_held) l20 c20 k20
  have b20 := F20.binds (ps := ["_law_cell"]) fun _ _ _ _ _ _ us hl => match us, hl with | [_], _ => rfl
  have F21 := fun_mk (st := s_law_in) l21 c21 k21
  have b21 := F21.binds (ps := ["_law_held_here", "_law_x", "_law_y"]) fun _ _ _ _ _ _ us hl => match us, hl with | [_, _, _], _ => rfl
  have F22 := fun_mk (st := s_law_edge) l22 c22 k22
  have b22 := F22.binds (ps := ["_law_held_here", "_law_x", "_law_y", "_law_way"]) fun _ _ _ _ _ _ us hl => match us, hl with | [_, _, _, _], _ => rfl
  have F23 := fun_mk (st := s_law_smooth) l23 c23 k23
  have b23 := F23.binds (ps := ["_law_held_here", "_law_x", "_law_y"]) fun _ _ _ _ _ _ us hl => match us, hl with | [_, _, _], _ => rfl
  have F24 := fun_mk (st := s_law_leaves) l24 c24 k24
  have b24 := F24.binds (ps := ["_law_held_here", "_law_x", "_law_y", "_law_dx", "_law_dy"]) fun _ _ _ _ _ _ us hl => match us, hl with | [_, _, _, _, _], _ => rfl
  have F25 := fun_mk (st := s_law_ways) l25 c25 k25
  have b25 := F25.binds (ps := ["_law_held_here"]) fun _ _ _ _ _ _ us hl => match us, hl with | [_], _ => rfl
  have F26 := fun_mk (st := s_law_map) l26 c26 k26
  have b26 := F26.binds (ps := ["_law_cell"]) fun _ _ _ _ _ _ us hl => match us, hl with | [_], _ => rfl
  have F27 := fun_mk (st := s_law_spot) l27 c27 k27
  have b27 := F27.binds (ps := ["_law_map_of", "_law_x", "_law_y", "_law_w"]) fun _ _ _ _ _ _ us hl => match us, hl with | [_, _, _, _], _ => rfl
  have F28 := fun_mk (st := s_law_low) l28 c28 k28
  have b28 := F28.binds (ps := ["_law_spot_here"]) fun _ _ _ _ _ _ us hl => match us, hl with | [_], _ => rfl
  have F29 := fun_mk (st := s_law_land) l29 c29 k29
  have b29 := F29.binds (ps := ["_law_held_here", "_law_map_of"]) fun _ _ _ _ _ _ us hl => match us, hl with | [_, _], _ => rfl
  have F30 := fun_mk (st := s_law_alike) l30 c30 k30
  have b30 := F30.binds (ps := ["_law_found", "_law_due_here"]) fun _ _ _ _ _ _ us hl => match us, hl with | [_, _], _ => rfl
  have F31 := fun_mk (st := s_law_area) l31 c31 k31
  have b31 := F31.binds (ps := ["_law_held_here", "_law_map_of"]) fun _ _ _ _ _ _ us hl => match us, hl with | [_, _], _ => rfl
  have F32 := fun_mk (st := s_law_due) l32 c32 k32
  have b32 := F32.binds (ps := ["_law_held_here", "_law_x", "_law_y"]) fun _ _ _ _ _ _ us hl => match us, hl with | [_, _, _], _ => rfl
  have F33 := fun_mk (st := s_law) l33 c33 k33
  have b33 := F33.binds (ps := ["_law_script"]) fun _ _ _ _ _ _ us hl => match us, hl with | [_], _ => rfl
  have T : Txt K mg (fun n => [f0, f1, f2, f3, f4, f5, f6, f7, f8, f9, f10, f11, f12, f13, f14, f15, f16, f17, f18, f19, f20, f21, f22, f23, f24, f25, f26, f27, f28, f29, f30, f31, f32, fa].getD n 0) (fun n => [PySem.W.fnOf "is_whole" "is_whole" (defArgs s_is_whole) (defBody s_is_whole) (defScope s_is_whole) .none kV0 dc0 pm0 an0 cd0 ct0, PySem.W.fnOf "divisor" "divisor" (defArgs s_divisor) (defBody s_divisor) (defScope s_divisor) .none kV1 dc1 pm1 an1 cd1 ct1, PySem.W.fnOf "fraction" "fraction" (defArgs s_fraction) (defBody s_fraction) (defScope s_fraction) .none kV2 dc2 pm2 an2 cd2 ct2, PySem.W.fnOf "plus" "plus" (defArgs s_plus) (defBody s_plus) (defScope s_plus) .none kV3 dc3 pm3 an3 cd3 ct3, PySem.W.fnOf "half" "half" (defArgs s_half) (defBody s_half) (defScope s_half) .none kV4 dc4 pm4 an4 cd4 ct4, PySem.W.fnOf "total" "total" (defArgs s_total) (defBody s_total) (defScope s_total) .none kV5 dc5 pm5 an5 cd5 ct5, PySem.W.fnOf "before" "before" (defArgs s_before) (defBody s_before) (defScope s_before) .none kV6 dc6 pm6 an6 cd6 ct6, PySem.W.fnOf "sign_of" "sign_of" (defArgs s_sign_of) (defBody s_sign_of) (defScope s_sign_of) .none kV7 dc7 pm7 an7 cd7 ct7, PySem.W.fnOf "line_of" "line_of" (defArgs s_line_of) (defBody s_line_of) (defScope s_line_of) .none kV8 dc8 pm8 an8 cd8 ct8, PySem.W.fnOf "side_of" "side_of" (defArgs s_side_of) (defBody s_side_of) (defScope s_side_of) .none kV9 dc9 pm9 an9 cd9 ct9, PySem.W.fnOf "turn" "turn" (defArgs s_turn) (defBody s_turn) (defScope s_turn) .none kV10 dc10 pm10 an10 cd10 ct10, PySem.W.fnOf "stretch" "stretch" (defArgs s_stretch) (defBody s_stretch) (defScope s_stretch) .none kV11 dc11 pm11 an11 cd11 ct11, PySem.W.fnOf "stretches_of" "stretches_of" (defArgs s_stretches_of) (defBody s_stretches_of) (defScope s_stretches_of) .none kV12 dc12 pm12 an12 cd12 ct12, PySem.W.fnOf "lies_on" "lies_on" (defArgs s_lies_on) (defBody s_lies_on) (defScope s_lies_on) .none kV13 dc13 pm13 an13 cd13 ct13, PySem.W.fnOf "above" "above" (defArgs s_above) (defBody s_above) (defScope s_above) .none kV14 dc14 pm14 an14 cd14 ct14, PySem.W.fnOf "spans" "spans" (defArgs s_spans) (defBody s_spans) (defScope s_spans) .none kV15 dc15 pm15 an15 cd15 ct15, PySem.W.fnOf "where" "where" (defArgs s_whereX) (defBody s_whereX) (defScope s_whereX) .none kV16 dc16 pm16 an16 cd16 ct16, PySem.W.fnOf "area" "area" (defArgs s_area) (defBody s_area) (defScope s_area) .none kV17 dc17 pm17 an17 cd17 ct17, PySem.W.fnOf "_law_cell_at" "_law_cell_at" (defArgs s_law_cell_at) (defBody s_law_cell_at) (defScope s_law_cell_at) .none kV18 dc18 pm18 an18 cd18 ct18, PySem.W.fnOf "_law_whole" "_law_whole" (defArgs s_law_whole) (defBody s_law_whole) (defScope s_law_whole) .none kV19 dc19 pm19 an19 cd19 ct19, PySem.W.fnOf "_law_held" "_law_held" (defArgs s_law_held) (defBody s_law_held) (defScope s_law_held) .none kV20 dc20 pm20 an20 cd20 ct20, PySem.W.fnOf "_law_in" "_law_in" (defArgs s_law_in) (defBody s_law_in) (defScope s_law_in) .none kV21 dc21 pm21 an21 cd21 ct21, PySem.W.fnOf "_law_edge" "_law_edge" (defArgs s_law_edge) (defBody s_law_edge) (defScope s_law_edge) .none kV22 dc22 pm22 an22 cd22 ct22, PySem.W.fnOf "_law_smooth" "_law_smooth" (defArgs s_law_smooth) (defBody s_law_smooth) (defScope s_law_smooth) .none kV23 dc23 pm23 an23 cd23 ct23, PySem.W.fnOf "_law_leaves" "_law_leaves" (defArgs s_law_leaves) (defBody s_law_leaves) (defScope s_law_leaves) .none kV24 dc24 pm24 an24 cd24 ct24, PySem.W.fnOf "_law_ways" "_law_ways" (defArgs s_law_ways) (defBody s_law_ways) (defScope s_law_ways) .none kV25 dc25 pm25 an25 cd25 ct25, PySem.W.fnOf "_law_map" "_law_map" (defArgs s_law_map) (defBody s_law_map) (defScope s_law_map) .none kV26 dc26 pm26 an26 cd26 ct26, PySem.W.fnOf "_law_spot" "_law_spot" (defArgs s_law_spot) (defBody s_law_spot) (defScope s_law_spot) .none kV27 dc27 pm27 an27 cd27 ct27, PySem.W.fnOf "_law_low" "_law_low" (defArgs s_law_low) (defBody s_law_low) (defScope s_law_low) .none kV28 dc28 pm28 an28 cd28 ct28, PySem.W.fnOf "_law_land" "_law_land" (defArgs s_law_land) (defBody s_law_land) (defScope s_law_land) .none kV29 dc29 pm29 an29 cd29 ct29, PySem.W.fnOf "_law_alike" "_law_alike" (defArgs s_law_alike) (defBody s_law_alike) (defScope s_law_alike) .none kV30 dc30 pm30 an30 cd30 ct30, PySem.W.fnOf "_law_area" "_law_area" (defArgs s_law_area) (defBody s_law_area) (defScope s_law_area) .none kV31 dc31 pm31 an31 cd31 ct31, PySem.W.fnOf "_law_due" "_law_due" (defArgs s_law_due) (defBody s_law_due) (defScope s_law_due) .none kV32 dc32 pm32 an32 cd32 ct32, PySem.W.fnOf "law" "law" (defArgs s_law) (defBody s_law) (defScope s_law) .none kV33 dc33 pm33 an33 cd33 ct33].getD n (PySem.W.fnOf "is_whole" "is_whole" (defArgs s_is_whole) (defBody s_is_whole) (defScope s_is_whole) .none kV0 dc0 pm0 an0 cd0 ct0)) :=
    ⟨⟨F0, b0, PySem.W.mg_of X G a0⟩, ⟨F1, b1, PySem.W.mg_of X G a1⟩, ⟨F2, b2, PySem.W.mg_of X G a2⟩, ⟨F3, b3, PySem.W.mg_of X G a3⟩, ⟨F4, b4, PySem.W.mg_of X G a4⟩, ⟨F5, b5, PySem.W.mg_of X G a5⟩, ⟨F6, b6, PySem.W.mg_of X G a6⟩, ⟨F7, b7, PySem.W.mg_of X G a7⟩, ⟨F8, b8, PySem.W.mg_of X G a8⟩, ⟨F9, b9, PySem.W.mg_of X G a9⟩, ⟨F10, b10, PySem.W.mg_of X G a10⟩, ⟨F11, b11, PySem.W.mg_of X G a11⟩, ⟨F12, b12, PySem.W.mg_of X G a12⟩, ⟨F13, b13, PySem.W.mg_of X G a13⟩, ⟨F14, b14, PySem.W.mg_of X G a14⟩, ⟨F15, b15, PySem.W.mg_of X G a15⟩, ⟨F16, b16, PySem.W.mg_of X G a16⟩, ⟨F17, b17, PySem.W.mg_of X G a17⟩, ⟨F18, b18, PySem.W.mg_of X G a18⟩, ⟨F19, b19, PySem.W.mg_of X G a19⟩, ⟨F20, b20, PySem.W.mg_of X G a20⟩, ⟨F21, b21, PySem.W.mg_of X G a21⟩, ⟨F22, b22, PySem.W.mg_of X G a22⟩, ⟨F23, b23, PySem.W.mg_of X G a23⟩, ⟨F24, b24, PySem.W.mg_of X G a24⟩, ⟨F25, b25, PySem.W.mg_of X G a25⟩, ⟨F26, b26, PySem.W.mg_of X G a26⟩, ⟨F27, b27, PySem.W.mg_of X G a27⟩, ⟨F28, b28, PySem.W.mg_of X G a28⟩, ⟨F29, b29, PySem.W.mg_of X G a29⟩, ⟨F30, b30, PySem.W.mg_of X G a30⟩, ⟨F31, b31, PySem.W.mg_of X G a31⟩, ⟨F32, b32, PySem.W.mg_of X G a32⟩, ⟨F33, b33, PySem.W.mg_of X G a33⟩, PySem.W.mg_none_of X G z0, PySem.W.mg_none_of X G z1, PySem.W.mg_none_of X G z2, PySem.W.mg_none_of X G z3, PySem.W.mg_none_of X G z4, PySem.W.mg_none_of X G z5, PySem.W.mg_none_of X G z6, PySem.W.mg_none_of X G z7, PySem.W.mg_none_of X G z8, PySem.W.mg_none_of X G z9, PySem.W.mg_none_of X G z10⟩
  exact ⟨PySem.W.fnOf "law" "law" (defArgs s_law) (defBody s_law) (defScope s_law) .none kV33 dc33 pm33 an33 cd33 ct33, fun s v => .of_eq rfl, fun base _ _ => ok_law T⟩
theorem walk {l : PySem.W.OpenLaw} {q : Program} {loose : List Str} {XP : (Str → Option Value) → Heap → Prop} {YP : World → Heap → Prop} {d : DefRec} {K : Params → PySem.W.Frag} (hn : l.most = some 63) (hdf : d.params.defaults = [])
    (hY : ∀ (w : World) (h : Heap), YP w h → (K w.params).In h)
    (F : ∀ (w : World) (mg : Str → Option Value) (fa : Addr) (h : Heap), (K w.params).In h → h.Ns mainGlobals mg → mg d.name = some (.ref fa) →
      ∃ fd : FuncData, (∀ (s : Shared) (u : Value), BindsTo s fd ⟨[u], []⟩ [("_law_script", u)]) ∧ ∀ base : Heap, (K w.params).In base → base.Ns mainGlobals mg → FnOk l.prog w (K w.params) mg base CX0 6 fa fd ["_law_script"] (sp_law (K w.params))) :
    PySem.W.WalkO q loose XP YP l.row.toRowW d [] (fun f vs => PySem.call f vs) :=
  L2.walk_of (n := 63) (k := 6) (x := "_law_script") (CX := fun _ => CX0) (sp := fun w => sp_law (K w.params)) hn (by decide) hdf ⟨rfl, by decide, by decide⟩ hY F (fun _ _ a ns hl _ hS => ⟨a, ns, rfl, hS, hl, fun _ => rfl⟩) fun _ _ _ _ _ z => z
end Mine
open PySem PySem.W PyProof.Rows
set_option maxRecDepth 100000 in
set_option maxHeartbeats 0 in
theorem PySem.Challenge.cw_acre_k24_where_and_area_holds : PySem.Challenge.rw_acre_k24_where_and_area.Holds := by
  w_on; o_law; k_head; (case hw => w_witness2)
  k_fill
  refine Mine.walk (l := PySem.Challenge.rw_acre_k24_where_and_area) rfl rfl (fun w h Y => PySem.W.kIn_of Y) ?F
  case F =>
    intro w mg fa h KX G hmg
    refine' Mine.all_mk KX G hmg ?a0 ?l0 ?c0 ?k0 ?a1 ?l1 ?c1 ?k1 ?a2 ?l2 ?c2 ?k2 ?a3 ?l3 ?c3 ?k3 ?a4 ?l4 ?c4 ?k4 ?a5 ?l5 ?c5 ?k5 ?a6 ?l6 ?c6 ?k6 ?a7 ?l7 ?c7 ?k7 ?a8 ?l8 ?c8 ?k8 ?a9 ?l9 ?c9 ?k9 ?a10 ?l10 ?c10 ?k10 ?a11 ?l11 ?c11 ?k11 ?a12 ?l12 ?c12 ?k12 ?a13 ?l13 ?c13 ?k13 ?a14 ?l14 ?c14 ?k14 ?a15 ?l15 ?c15 ?k15 ?a16 ?l16 ?c16 ?k16 ?a17 ?l17 ?c17 ?k17 ?a18 ?l18 ?c18 ?k18 ?a19 ?l19 ?c19 ?k19 ?a20 ?l20 ?c20 ?k20 ?a21 ?l21 ?c21 ?k21 ?a22 ?l22 ?c22 ?k22 ?a23 ?l23 ?c23 ?k23 ?a24 ?l24 ?c24 ?k24 ?a25 ?l25 ?c25 ?k25 ?a26 ?l26 ?c26 ?k26 ?a27 ?l27 ?c27 ?k27 ?a28 ?l28 ?c28 ?k28 ?a29 ?l29 ?c29 ?k29 ?a30 ?l30 ?c30 ?k30 ?a31 ?l31 ?c31 ?k31 ?a32 ?l32 ?c32 ?k32 ?a33 ?l33 ?c33 ?k33 ?z0 ?z1 ?z2 ?z3 ?z4 ?z5 ?z6 ?z7 ?z8 ?z9 ?z10
    (case a0 => k_is)
    (case l0 => k_is)
    (case c0 => k_is)
    (case k0 => k_is)
    (case a1 => k_is)
    (case l1 => k_is)
    (case c1 => k_is)
    (case k1 => k_is)
    (case a2 => k_is)
    (case l2 => k_is)
    (case c2 => k_is)
    (case k2 => k_is)
    (case a3 => k_is)
    (case l3 => k_is)
    (case c3 => k_is)
    (case k3 => k_is)
    (case a4 => k_is)
    (case l4 => k_is)
    (case c4 => k_is)
    (case k4 => k_is)
    (case a5 => k_is)
    (case l5 => k_is)
    (case c5 => k_is)
    (case k5 => k_is)
    (case a6 => k_is)
    (case l6 => k_is)
    (case c6 => k_is)
    (case k6 => k_is)
    (case a7 => k_is)
    (case l7 => k_is)
    (case c7 => k_is)
    (case k7 => k_is)
    (case a8 => k_is)
    (case l8 => k_is)
    (case c8 => k_is)
    (case k8 => k_is)
    (case a9 => k_is)
    (case l9 => k_is)
    (case c9 => k_is)
    (case k9 => k_is)
    (case a10 => k_is)
    (case l10 => k_is)
    (case c10 => k_is)
    (case k10 => k_is)
    (case a11 => k_is)
    (case l11 => k_is)
    (case c11 => k_is)
    (case k11 => k_is)
    (case a12 => k_is)
    (case l12 => k_is)
    (case c12 => k_is)
    (case k12 => k_is)
    (case a13 => k_is)
    (case l13 => k_is)
    (case c13 => k_is)
    (case k13 => k_is)
    (case a14 => k_is)
    (case l14 => k_is)
    (case c14 => k_is)
    (case k14 => k_is)
    (case a15 => k_is)
    (case l15 => k_is)
    (case c15 => k_is)
    (case k15 => k_is)
    (case a16 => k_is)
    (case l16 => k_is)
    (case c16 => k_is)
    (case k16 => k_is)
    (case a17 => k_is)
    (case l17 => k_is)
    (case c17 => k_is)
    (case k17 => k_is)
    (case a18 => k_is)
    (case l18 => k_is)
    (case c18 => k_is)
    (case k18 => k_is)
    (case a19 => k_is)
    (case l19 => k_is)
    (case c19 => k_is)
    (case k19 => k_is)
    (case a20 => k_is)
    (case l20 => k_is)
    (case c20 => k_is)
    (case k20 => k_is)
    (case a21 => k_is)
    (case l21 => k_is)
    (case c21 => k_is)
    (case k21 => k_is)
    (case a22 => k_is)
    (case l22 => k_is)
    (case c22 => k_is)
    (case k22 => k_is)
    (case a23 => k_is)
    (case l23 => k_is)
    (case c23 => k_is)
    (case k23 => k_is)
    (case a24 => k_is)
    (case l24 => k_is)
    (case c24 => k_is)
    (case k24 => k_is)
    (case a25 => k_is)
    (case l25 => k_is)
    (case c25 => k_is)
    (case k25 => k_is)
    (case a26 => k_is)
    (case l26 => k_is)
    (case c26 => k_is)
    (case k26 => k_is)
    (case a27 => k_is)
    (case l27 => k_is)
    (case c27 => k_is)
    (case k27 => k_is)
    (case a28 => k_is)
    (case l28 => k_is)
    (case c28 => k_is)
    (case k28 => k_is)
    (case a29 => k_is)
    (case l29 => k_is)
    (case c29 => k_is)
    (case k29 => k_is)
    (case a30 => k_is)
    (case l30 => k_is)
    (case c30 => k_is)
    (case k30 => k_is)
    (case a31 => k_is)
    (case l31 => k_is)
    (case c31 => k_is)
    (case k31 => k_is)
    (case a32 => k_is)
    (case l32 => k_is)
    (case c32 => k_is)
    (case k32 => k_is)
    (case a33 => k_is)
    (case l33 => k_is)
    (case c33 => k_is)
    (case k33 => k_is)
    (case z0 => k_is)
    (case z1 => k_is)
    (case z2 => k_is)
    (case z3 => k_is)
    (case z4 => k_is)
    (case z5 => k_is)
    (case z6 => k_is)
    (case z7 => k_is)
    (case z8 => k_is)
    (case z9 => k_is)
    (case z10 => k_is)
import PyProof.Rows.All
import Wide.All
import OpenK.AllK
import Wide.FinOn
import Lean
import PyProof.EqAt
import PyProof.EqKinds
import PyProof.TupleCall
import PySem.Challenge.RW_acre_k57_hulls
set_option Elab.async false
set_option linter.all false
set_option maxRecDepth 100000
namespace L2
open PySem PySem.Spec PyProof.Rows
abbrev Key := Sum Int Str
def keyIs : Key → Value → Bool
  | .inl k, v => Value.isInt k v
  | .inr x, v => Value.isStrOf x v
def keyH (w : World) : Key → Int
  | .inl k => hashInt k
  | .inr x => hashStr w x
theorem keyIs_shape : ∀ {k : Key} {v : Value}, keyIs k v = true → (∃ i t, k = Sum.inl i ∧ v = Value.int i t) ∨ (∃ x t, k = Sum.inr x ∧ v = Value.str x t)
  | .inl i, v, h => by
    obtain ⟨t, e⟩ := Value.isInt_shape (k := i) (v := v) h
    exact .inl ⟨i, t, rfl, e⟩
  | .inr x, v, h => by
    obtain ⟨t, e⟩ := Value.isStrOf_shape (x := x) (v := v) h
    exact .inr ⟨x, t, rfl, e⟩
theorem keyIs_int (i : Int) (t : Tok) : keyIs (.inl i) (.int i t) = true := by simp [keyIs, Value.isInt]
theorem keyIs_str (x : Str) (t : Tok) : keyIs (.inr x) (.str x t) = true := by simp [keyIs, Value.isStrOf]
theorem key_ll (a b : Int) : decide ((Sum.inl a : Key) = Sum.inl b) = (a == b) := by
  by_cases e : a = b
  · subst e; simp
  · have h : ¬ (Sum.inl a : Key) = Sum.inl b := fun q => e (Sum.inl.inj q)
    rw [decide_eq_false h]
    exact (beq_eq_false_iff_ne.mpr e).symm
theorem key_rr (a b : Str) : decide ((Sum.inr a : Key) = Sum.inr b) = decide (a = b) := by
  by_cases e : a = b
  · subst e; simp
  · have h : ¬ (Sum.inr a : Key) = Sum.inr b := fun q => e (Sum.inr.inj q)
    rw [decide_eq_false h, decide_eq_false e]
theorem key_lr (a : Int) (b : Str) : decide ((Sum.inl a : Key) = Sum.inr b) = false := decide_eq_false (fun q => nomatch q)
theorem key_rl (a : Str) (b : Int) : decide ((Sum.inr a : Key) = Sum.inl b) = false := decide_eq_false (fun q => nomatch q)
def mixKind (prog : Program) (w : World) : PySem.KeyKind prog w Key where
  is := keyIs
  hash := keyH w
  inj := fun v a b ha hb => by
    rcases keyIs_shape ha with ⟨i, t, rfl, rfl⟩ | ⟨x, t, rfl, rfl⟩
    · rcases keyIs_shape hb with ⟨j, u, rfl, e⟩ | ⟨y, u, rfl, e⟩
      · injection e with e1 _; rw [e1]
      · exact nomatch e
    · rcases keyIs_shape hb with ⟨j, u, rfl, e⟩ | ⟨y, u, rfl, e⟩
      · exact nomatch e
      · injection e with e1 _; rw [e1]
  byValue := fun k v h => by
    rcases keyIs_shape h with ⟨i, t, rfl, rfl⟩ | ⟨x, t, rfl, rfl⟩ <;> rfl
  pyHash := fun hv h => by
    rcases keyIs_shape hv with ⟨i, t, rfl, rfl⟩ | ⟨x, t, rfl, rfl⟩
    · exact wpAny_pyHash_int h
    · exact wpAny_pyHash_str h
  eqBool := fun hu hv h => by
    rcases keyIs_shape hu with ⟨i, t, rfl, rfl⟩ | ⟨x, t, rfl, rfl⟩
    · rcases keyIs_shape hv with ⟨j, u, rfl, rfl⟩ | ⟨y, u, rfl, rfl⟩
      · rw [key_ll] at h; exact wpAny_eqBool_int h
      · rw [key_lr] at h; exact SeqAt.EqAt.int_str i t y u _ _ _ _ h
    · rcases keyIs_shape hv with ⟨j, u, rfl, rfl⟩ | ⟨y, u, rfl, rfl⟩
      · rw [key_rl] at h; exact SeqAt.EqAt.str_int x t j u _ _ _ _ h
      · rw [key_rr] at h; exact wpAny_eqBool_str h
  «strs» := fun k x t v h => by
    rcases keyIs_shape h with ⟨i, u, rfl, e⟩ | ⟨y, u, rfl, e⟩
    · exact nomatch e
    · injection e with e1 _
      subst e1
      cases v <;> rfl
theorem mixKind_int (prog : Program) (w : World) (i : Int) (t : Tok) : (mixKind prog w).is (.inl i) (.int i t) = true := keyIs_int i t
theorem mixKind_str (prog : Program) (w : World) (x : Str) (t : Tok) : (mixKind prog w).is (.inr x) (.str x t) = true := keyIs_str x t
end L2
namespace L2
open PySem PySem.Spec PyProof.Rows
inductive V where
  | non | bl (b : Bool) | int (i : Int) | str (x : Str) | byt (b : Array UInt8) | flt (b : UInt64) | ref (a : Addr) | ty (n : String)
  deriving DecidableEq
def RelV : V → Value → Prop
  | .non, u => u = Value.none
  | .bl b, u => u = Value.bool b
  | .int i, u => ∃ t, u = Value.int i t
  | .str x, u => ∃ t, u = Value.str x t
  | .byt b, u => ∃ t, u = Value.bytes b t
  | .flt b, u => ∃ t, u = Value.float b t
  | .ref a, u => u = Value.ref a
  | .ty n, u => u = Value.type n
abbrev Vals : List V → List Value → Prop := Paired RelV
theorem Vals.length {xs : List V} {us : List Value} (r : Vals xs us) : xs.length = us.length := Paired.length r
theorem Vals.get : ∀ {xs : List V} {us : List Value} {i : Nat} {x : V}, Vals xs us → xs[i]? = some x → ∃ u, us[i]? = some u ∧ RelV x u
  | _, _, _, _, .nil, e => by simp at e
  | _, _, 0, _, .cons r _, e => by simp at e; subst e; exact ⟨_, rfl, r⟩
  | _, _, i + 1, x, .cons _ t, e => by
    obtain ⟨u, h1, h2⟩ := Vals.get (i := i) (x := x) t (by simpa using e)
    exact ⟨u, by simpa using h1, h2⟩
theorem Vals.set {x : V} {u : Value} (r : RelV x u) : ∀ {xs : List V} {us : List Value} (i : Nat), Vals xs us → Vals (xs.set i x) (us.set i u)
  | _, _, _, .nil => .nil
  | _, _, 0, .cons _ t => .cons r t
  | _, _, i + 1, .cons q t => .cons q (Vals.set r i t)
theorem Vals.append : ∀ {xs ys : List V} {us ws : List Value}, Vals xs us → Vals ys ws → Vals (xs ++ ys) (us ++ ws)
  | _, _, _, _, .nil, s => s
  | _, _, _, _, .cons r t, s => .cons r (Vals.append t s)
theorem Vals.take : ∀ {xs : List V} {us : List Value} (n : Nat), Vals xs us → Vals (xs.take n) (us.take n)
  | _, _, 0, _ => .nil
  | _, _, _ + 1, .nil => .nil
  | _, _, n + 1, .cons r t => .cons r (Vals.take n t)
theorem Vals.drop : ∀ {xs : List V} {us : List Value} (n : Nat), Vals xs us → Vals (xs.drop n) (us.drop n)
  | _, _, 0, r => r
  | _, _, _ + 1, .nil => .nil
  | _, _, n + 1, .cons _ t => Vals.drop n t
def RelO : Option V → Option Value → Prop
  | some v, some u => RelV v u
  | none, none => True
  | _, _ => False
def KV {κ : Type} : List (κ × V) → List (κ × Value) → Prop := Paired fun (p : κ × V) (q : κ × Value) => p.1 = q.1 ∧ RelV p.2 q.2
def kV : Key → V
  | .inl i => .int i
  | .inr x => .str x
inductive HO where
  /-- a list -/
  | lst (xs : List V)
  /-- a tuple (never changes) -/
  | tup (xs : List V)
  /-- a dict whose keys are ints and texts; one whose keys are tuples of ints and texts (the empty one is both) -/
  | dK (kvs : List (Key × V)) | dT (kvs : List (List Key × V))
  /-- a set of ints: its members, its size -/
  | set (S : Int → Bool) (n : Nat)
  /-- an instance of the class at C, its dict at dx, its attributes -/
  | ins (C dx : Addr) (fs : List (Str × V))
  /-- the dict of the instance at x -/
  | own (x : Addr)
  /-- the dict of an exception -/
  | xd (fs : List (Str × V))
  /-- a bound method, f of x -/
  | met (f x : Addr)
  /-- a range object lo, lo + 1, .. below hi -/
  | rng (lo hi : Int)
  /-- a thing that is known to the object (the script; a dict while a loop walks it): read, never written while it is so -/
  | frz (o : Obj) (u : HO)
  /-- a code object's table -/
  | tbl (ps : Array Value)
  /-- any other thing, by what is true of its one object (a def of one's own: SetO a S n := HO.ext fun h => ..) -/
  | ext (φ : Heap → Prop)
abbrev Hp := Addr → Option HO
def upd (H : Hp) (a : Addr) (o : HO) : Hp := fun b => if b = a then some o else H b
theorem upd_same {H : Hp} {a : Addr} {o : HO} : upd H a o a = some o := by unfold upd; rw [if_pos rfl]
theorem upd_ne {H : Hp} {a b : Addr} {o : HO} (h : b ≠ a) : upd H a o b = H b := by unfold upd; rw [if_neg h]
theorem upd_upd {H : Hp} {a : Addr} {o u : HO} : upd (upd H a o) a u = upd H a u := by
  funext b; unfold upd; split <;> rfl
theorem ne_of {H : Hp} {a b : Addr} {o u : HO} (h : H a = some o) (h' : H b = some u) (d : o ≠ u) : a ≠ b := by
  intro e; subst e; rw [h] at h'; exact d (Option.some.inj h')
theorem ne_of_none {H : Hp} {a b : Addr} {o : HO} (h : H a = some o) (h' : H b = none) : a ≠ b := by
  intro e; subst e; rw [h] at h'; cases h'
section
variable (P : Program) (w : World)
def ObjOk (H : Hp) (h : Heap) (a : Addr) : HO → Prop
  | .lst xs => xs.length ≤ sizeLine ∧ ∃ (its : List Value) (n : Nat), Vals xs its ∧ h.get? a = some { cls := .type "list", data := .seq its.toArray n }
  | .tup xs => xs.length ≤ sizeLine ∧ ∃ its : List Value, Vals xs its ∧ IsTup h a its.toArray
  | .dK kvs => kvs.length ≤ sizeLine ∧ (a == sysModules) = false ∧ ∃ vs, KV kvs vs ∧ h.DictOf (mixKind P w) a vs
  | .dT kvs => kvs.length ≤ sizeLine ∧ (a == sysModules) = false ∧ ∃ xs : List (List Key × Addr × Value),
      Paired (fun (p : List Key × V) (q : List Key × Addr × Value) => p.1 = q.1 ∧ H q.2.1 = some (.tup (p.1.map kV)) ∧ RelV p.2 q.2.2) kvs xs ∧
      ∃ o es ep, h.get? a = some o ∧ o.ExactDict ∧ o.data = .dict es ep ∧ es.toList = xs.map (entryOfKey (tupleKind (mixKind P w))) ∧ (xs.map (·.1)).Nodup
  | .set S n => h.SetOf (intKind P w) a S n
  | .ins C dx fs => H dx = some (.own a) ∧ fs.length ≤ 1000 ∧ dx ≠ a ∧ h.get? a = some (PySem.W.instObj C dx) ∧
      ∃ mA, h.Ns1 dx mA ∧ (∀ f, RelO (fs.lookup f) (mA f)) ∧ PySem.Within mA (fs.map (·.1))
  | .own _ => ∃ o, h.get? a = some o
  | .xd fs => ∃ mA, h.Ns1 a mA ∧ ∀ f, RelO (fs.lookup f) (mA f)
  | .rng lo hi => ∃ t u v, h.get? a = some { cls := .type "range", data := .fields #[.int lo t, .int hi u, .int 1 v] }
  | .frz o u => h.get? a = some o ∧ ObjOk H h a u
  | .tbl ps => h.get? a = some { cls := .none, data := .fields ps }
  | .met f x => h.get? a = some (PySem.W.methodObj (.ref f) (.ref x))
  | .ext φ => φ h ∧ (∃ o, h.get? a = some o) ∧ ∀ h1 h2 : Heap, φ h1 → (∀ o, h1.get? a = some o → h2.get? a = some o) → φ h2
def HOk (H : Hp) (h : Heap) : Prop := ∀ a o, H a = some o → ObjOk P w H h a o
end
section
variable {P : Program} {w : World} {H H' : Hp} {h h' : Heap} {a : Addr} {o : HO}
theorem ObjOk.lt (x : ObjOk P w H h a o) : a < h.objs.size := by
  cases o with
  | lst xs => obtain ⟨_, _, _, _, e⟩ := x; exact Heap.lt_size e
  | tup xs => obtain ⟨_, _, _, p⟩ := x; exact p.lt
  | dK kvs => obtain ⟨_, _, _, _, o, _, _, e, _⟩ := x; exact Heap.lt_size e
  | dT kvs => obtain ⟨_, _, _, _, o, _, _, e, _⟩ := x; exact Heap.lt_size e
  | set S n => obtain ⟨o, _, _, _, e, _⟩ := x; exact Heap.lt_size e
  | ins C dx fs => obtain ⟨_, _, _, e, _⟩ := x; exact Heap.lt_size e
  | own y => obtain ⟨_, e⟩ := x; exact Heap.lt_size e
  | xd fs => obtain ⟨_, ⟨_, _, _, e, _⟩, _⟩ := x; exact Heap.lt_size e
  | rng lo hi => obtain ⟨_, _, _, e⟩ := x; exact Heap.lt_size e
  | frz ob u => obtain ⟨e, _⟩ := x; exact Heap.lt_size e
  | tbl ps => exact Heap.lt_size (show h.get? a = some _ from x)
  | met f y => exact Heap.lt_size (show h.get? a = some _ from x)
  | ext φ => obtain ⟨_, ⟨_, e⟩, _⟩ := x; exact Heap.lt_size e
theorem Paired.mapP {α β : Type} {F G : α → β → Prop} : ∀ {l₁ : List α} {l₂ : List β}, Paired F l₁ l₂ → (∀ a b, F a b → G a b) → Paired G l₁ l₂
  | _, _, .nil, _ => .nil
  | _, _, .cons r t, f => .cons (f _ _ r) (Paired.mapP t f)
theorem ObjOk.stay (x : ObjOk P w H h a o) (k : ∀ b u, (b = a ∨ H b = some (.own a)) → h.get? b = some u → h'.get? b = some u)
    (ho : ∀ b, H b = some (.own a) → H' b = some (.own a)) (ht : ∀ b xs, H b = some (.tup xs) → H' b = some (.tup xs)) : ObjOk P w H' h' a o := by
  induction o with
  | lst xs => obtain ⟨z, its, n, r, e⟩ := x; exact ⟨z, its, n, r, k _ _ (.inl rfl) e⟩
  | tup xs => obtain ⟨z, its, r, ob, e, c⟩ := x; exact ⟨z, its, r, ob, k _ _ (.inl rfl) e, c⟩
  | dK kvs => obtain ⟨z, y, vs, r, ob, es, ep, e, c⟩ := x; exact ⟨z, y, vs, r, ob, es, ep, k _ _ (.inl rfl) e, c⟩
  | dT kvs =>
    obtain ⟨z, y, xs, r, ob, es, ep, e, c⟩ := x
    exact ⟨z, y, xs, Paired.mapP r fun p q z => ⟨z.1, ht _ _ z.2.1, z.2.2⟩, ob, es, ep, k _ _ (.inl rfl) e, c⟩
  | set S n => obtain ⟨ob, es, ep, t, e, c⟩ := x; exact ⟨ob, es, ep, t, k _ _ (.inl rfl) e, c⟩
  | ins C dx fs =>
    obtain ⟨d, z, ne, e, mA, ⟨od, es, ep, e2, c⟩, r⟩ := x
    exact ⟨ho _ d, z, ne, k _ _ (.inl rfl) e, mA, ⟨od, es, ep, k _ _ (.inr d) e2, c⟩, r⟩
  | own y => obtain ⟨ob, e⟩ := x; exact ⟨ob, k _ _ (.inl rfl) e⟩
  | xd fs => obtain ⟨mA, ⟨od, es, ep, e, c⟩, r⟩ := x; exact ⟨mA, ⟨od, es, ep, k _ _ (.inl rfl) e, c⟩, r⟩
  | rng lo hi => obtain ⟨t, u, v, e⟩ := x; exact ⟨t, u, v, k _ _ (.inl rfl) e⟩
  | frz ob u ih => obtain ⟨e, q⟩ := x; exact ⟨k _ _ (.inl rfl) e, ih q⟩
  | tbl ps =>
    have e : h.get? a = some { cls := .none, data := .fields ps } := x
    show h'.get? a = some { cls := .none, data := .fields ps }
    exact k a _ (.inl rfl) e
  | met f y =>
    have e : h.get? a = some (PySem.W.methodObj (.ref f) (.ref y)) := x
    show h'.get? a = some (PySem.W.methodObj (.ref f) (.ref y))
    exact k a _ (.inl rfl) e
  | ext φ => obtain ⟨p, ⟨o, e⟩, st⟩ := x; exact ⟨st _ _ p fun o q => k _ _ (.inl rfl) q, ⟨o, k _ _ (.inl rfl) e⟩, st⟩
theorem HOk.lt (x : HOk P w H h) (e : H a = some o) : a < h.objs.size := (x a o e).lt
theorem HOk.fresh (x : HOk P w H h) (e : h.objs.size ≤ a) : H a = none := by
  cases q : H a with
  | none => rfl
  | some u => exact absurd (Nat.lt_of_lt_of_le (x.lt q) e) (Nat.lt_irrefl _)
theorem HOk.kept (x : HOk P w H h) (k : ∀ b u, h.get? b = some u → h'.get? b = some u) : HOk P w H h' := fun a o e =>
  (x a o e).stay (fun b u _ q => k b u q) (fun _ q => q) fun _ _ q => q
theorem HOk.laid (x : HOk P w H h) (k : ∀ b u, h.get? b = some u → h'.get? b = some u) (hp : h.objs.size ≤ a) (new : ObjOk P w (upd H a o) h' a o) : HOk P w (upd H a o) h' := fun b u e => by
  have hn := x.fresh hp
  by_cases hb : b = a
  · subst hb; rw [upd_same] at e; cases e; exact new
  · rw [upd_ne hb] at e
    exact (x b u e).stay (fun c v _ q => k c v q) (fun c q => by rw [upd_ne (ne_of_none q hn)]; exact q) fun c xs q => by rw [upd_ne (ne_of_none q hn)]; exact q
end
def Rd (H : Hp) (a : Addr) (u : HO) : Prop := H a = some u ∨ ∃ o, H a = some (.frz o u)
theorem Rd.of {H : Hp} {a : Addr} {u : HO} (h : H a = some u) : Rd H a u := .inl h
theorem Rd.ok {P : Program} {w : World} {H : Hp} {h : Heap} {a : Addr} {u : HO} (r : Rd H a u) (x : HOk P w H h) : ObjOk P w H h a u := by
  rcases r with r | ⟨o, r⟩
  · exact x a u r
  · obtain ⟨_, q⟩ := x a _ r
    exact q
def Mut : Option HO → Prop
  | some (.lst _) => True
  | some (.dK _) => True
  | some (.dT _) => True
  | some (.set _ _) => True
  | some (.ins _ _ _) => True
  | some (.ext _) => True
  | _ => False
section
variable {P : Program} {w : World} {H : Hp} {h h' : Heap} {x e : Addr} {o' : HO}
theorem HOk.write (ok : HOk P w H h) (mu : Mut (H x)) (he : e = x ∨ H e = some (.own x)) (k : ∀ b u, b ≠ e → h.get? b = some u → h'.get? b = some u) (heo : ∃ u, h'.get? e = some u)
    (new : ObjOk P w (upd H x o') h' x o') : HOk P w (upd H x o') h' := fun b u q => by
  have nown : ∀ c y, H c = some (.own y) → c ≠ x := fun c y r z => by subst z; rw [r] at mu; exact mu
  have ntup : ∀ c xs, H c = some (.tup xs) → c ≠ x := fun c xs r z => by subst z; rw [r] at mu; exact mu
  by_cases hb : b = x
  · subst hb; rw [upd_same] at q; cases q; exact new
  · rw [upd_ne hb] at q
    by_cases hbe : b = e
    · have q' : H b = some (.own x) := by
        rcases he with z | z
        · exact absurd (hbe.trans z) hb
        · rw [hbe]; exact z
      rw [q] at q'; cases q'
      obtain ⟨v, hv⟩ := heo
      exact ⟨v, by rw [hbe]; exact hv⟩
    · refine (ok b u q).stay (fun c v hc r => k c v ?_ r) (fun c r => by rw [upd_ne (nown c b r)]; exact r) fun c xs r => by rw [upd_ne (ntup c xs r)]; exact r
      rcases hc with rfl | hc
      · exact hbe
      · rintro rfl
        rcases he with z | z
        · exact nown c b hc z
        · rw [hc] at z; cases z; exact hb rfl
end
structure Un (fs ex : List Addr) (H H' : Hp) (h h' : Heap) : Prop where
  keep : ∀ b o, h.get? b = some o → H b = none → b ∉ fs → b ∉ ex → h'.get? b = some o
  slot : ∀ b o, h.get? b = some o → H b = none → b ∈ fs → b ∉ ex → ∃ sl, h'.get? b = some { o with slots := sl }
  free : ∀ b o, h.get? b = some o → H b = none → b ∉ ex → H' b = none
  there : ∀ b o, h.get? b = some o → b ∉ ex → ∃ o', h'.get? b = some o'
  tups : ∀ b xs, H b = some (.tup xs) → H' b = some (.tup xs)
  frzs : ∀ b o u, H b = some (.frz o u) → H' b = some (.frz o u)
  tbls : ∀ b ps, H b = some (.tbl ps) → ∃ more, H' b = some (.tbl (ps ++ more))
section
variable {fs fs' ex ex' : List Addr} {H H1 H2 : Hp} {h h1 h2 h' : Heap} {a x e : Addr} {o : HO}
theorem Un.any (u : Un fs ex H H1 h h1) {b : Addr} {ob : Obj} (q : h.get? b = some ob) (n : H b = none) (hx : b ∉ ex) : ∃ sl, h1.get? b = some { ob with slots := sl } := by
  by_cases hb : b ∈ fs
  · exact u.slot b ob q n hb hx
  · exact ⟨ob.slots, u.keep b ob q n hb hx⟩
theorem Un.trans (a : Un fs ex H H1 h h1) (b : Un fs ex H1 H2 h1 h2) : Un fs ex H H2 h h2 where
  keep := fun c ob q n hc hx => b.keep c ob (a.keep c ob q n hc hx) (a.free c ob q n hx) hc hx
  slot := fun c ob q n hc hx => by
    obtain ⟨sl, e1⟩ := a.slot c ob q n hc hx
    obtain ⟨sl', e2⟩ := b.slot c _ e1 (a.free c ob q n hx) hc hx
    exact ⟨sl', e2⟩
  free := fun c ob q n hx => by
    obtain ⟨o', e1⟩ := a.there c ob q hx
    exact b.free c o' e1 (a.free c ob q n hx) hx
  there := fun c ob q hx => by
    obtain ⟨o', e1⟩ := a.there c ob q hx
    exact b.there c o' e1 hx
  tups := fun c xs q => b.tups c xs (a.tups c xs q)
  frzs := fun c ob xs q => b.frzs c ob xs (a.frzs c ob xs q)
  tbls := fun c ps q => by
    obtain ⟨m1, e1⟩ := a.tbls c ps q
    obtain ⟨m2, e2⟩ := b.tbls c _ e1
    exact ⟨m1 ++ m2, by rw [e2, Array.append_assoc]⟩
theorem Un.kept (k : ∀ b u, h.get? b = some u → h'.get? b = some u) : Un fs ex H H h h' :=
  ⟨fun b ob q _ _ _ => k b ob q, fun b ob q _ _ _ => ⟨ob.slots, k b ob q⟩, fun _ _ _ n _ => n, fun b ob q _ => ⟨ob, k b ob q⟩, fun _ _ q => q, fun _ _ _ q => q, fun _ ps q => ⟨#[], by rw [q]; simp⟩⟩
theorem Un.refl : Un fs ex H H h h := Un.kept fun _ _ q => q
theorem Un.laid (k : ∀ b u, h.get? b = some u → h'.get? b = some u) (hp : h.objs.size ≤ a) (hn : H a = none) : Un fs ex H (upd H a o) h h' where
  keep := fun b u q _ _ _ => k b u q
  slot := fun b u q _ _ _ => ⟨u.slots, k b u q⟩
  free := fun b u q n _ => by rw [upd_ne (Nat.ne_of_lt (Nat.lt_of_lt_of_le (Heap.lt_size q) hp))]; exact n
  there := fun b u q _ => ⟨u, k b u q⟩
  tups := fun b xs q => by rw [upd_ne (ne_of_none q hn)]; exact q
  frzs := fun b u xs q => by rw [upd_ne (ne_of_none q hn)]; exact q
  tbls := fun b ps q => ⟨#[], by rw [upd_ne (ne_of_none q hn), q]; simp⟩
theorem Un.write (mu : Mut (H x)) (he : e = x ∨ H e = some (.own x)) (k : ∀ b u, b ≠ e → h.get? b = some u → h'.get? b = some u) (heo : ∃ u, h'.get? e = some u) : Un fs ex H (upd H x o) h h' := by
  have hx : ∀ b, H b = none → b ≠ x := fun b n z => by subst z; rw [n] at mu; exact mu
  have hb : ∀ b, H b = none → b ≠ e := fun b n z => by
    subst z
    rcases he with r | r
    · exact hx b n r
    · rw [n] at r; cases r
  have hm : ∀ b u, H b = some u → ¬ Mut (some u) → b ≠ x := fun b u q nm z => by subst z; rw [q] at mu; exact nm mu
  refine ⟨fun b u q n _ _ => k b u (hb b n) q, fun b u q n _ _ => ⟨u.slots, k b u (hb b n) q⟩, fun b u q n _ => by rw [upd_ne (hx b n)]; exact n, fun b u q _ => ?_,
    fun b xs q => by rw [upd_ne (hm b _ q fun z => z)]; exact q, fun b u xs q => by rw [upd_ne (hm b _ q fun z => z)]; exact q, fun b ps q => ⟨#[], by rw [upd_ne (hm b _ q fun z => z), q]; simp⟩⟩
  by_cases hbe : b = e
  · subst hbe; exact heo
  · exact ⟨u, k b u hbe q⟩
theorem Un.mono (u : Un fs ex H H1 h h1) (hs : ∀ b ∈ fs, b ∈ fs') (hx : ∀ b ∈ ex, b ∈ ex') : Un fs' ex' H H1 h h1 :=
  ⟨fun b ob q n hb he => u.keep b ob q n (fun z => hb (hs b z)) fun z => he (hx b z), fun _ _ q n _ he => u.any q n fun z => he (hx _ z), fun b ob q n he => u.free b ob q n fun z => he (hx b z), fun b ob q he => u.there b ob q fun z => he (hx b z), u.tups, u.frzs, u.tbls⟩
end
def trk (h : Heap) (H : Hp) : List Addr := (List.range h.objs.size).filter fun a => (H a).isSome
def hidT (h : Heap) (H : Hp) : Heap := PySem.W.hideAll h (trk h H)
theorem hidT_size (h : Heap) (H : Hp) : (hidT h H).objs.size = h.objs.size := PySem.W.hideAll_size _ _
theorem hidT_get {h : Heap} {H : Hp} {b : Addr} {o : Obj} (e : h.get? b = some o) (n : H b = none) : (hidT h H).get? b = some o :=
  PySem.W.hideAll_get _ e fun hm => by
    have q : (H b).isSome = true := (List.mem_filter.mp hm).2
    rw [n] at q; simp at q
theorem of_hidT {h : Heap} {H : Hp} {b : Addr} {o : Obj} (e : (hidT h H).get? b = some o) : h.get? b = some o ∧ H b = none := by
  have e' : h.get? b = some o := PySem.W.of_hideAll (trk h H) e
  refine ⟨e', ?_⟩
  cases q : H b with
  | none => rfl
  | some x =>
    have hm : b ∈ trk h H := List.mem_filter.mpr ⟨List.mem_range.mpr (Heap.lt_size e'), by simp [q]⟩
    have z : (hidT h H).get? b = none := PySem.W.hideAll_none (trk h H) hm
    rw [z] at e; cases e
def allNews (g h : Heap) (L : Addr) : List (Addr × Obj) := (List.range h.objs.size).filterMap fun a => if a = L ∨ (g.get? a).isSome = true then none else (h.get? a).map fun o => (a, o)
def rest (g h : Heap) (L d : Addr) : List (Addr × Obj) := (allNews g h L).filter fun p => decide (p.1 ≠ d)
end L2
namespace L2
open PySem PySem.Spec PyProof.Rows
structure Mod (K : PySem.W.Frag) (mg : Str → Option Value) (base : Heap) : Prop where
  kin : K.In base
  glob : base.Ns mainGlobals mg
  blt : ∃ mb, base.Ns builtinsNs mb ∧ ∀ x : Str, x ≠ "__name__" → mb x = bootBuiltins x
  nolimit : base.NoLimit
structure Cx where
  prog : Program
  w : World
  K : PySem.W.Frag
  mg : Str → Option Value
  base : Heap
  A : Around
  N : List Str
  s₀ : Shared
  H₀ : Hp
  env : Env
  outer : List Env
  stack : List Env
  ex : List Addr
  fn : Str → Bool
  calm : Bool
  pn : List (Addr × Obj)
  xe : Value → Shared → Prop
def frs (l : List Env) : List Addr := l.filterMap (·.frame)
abbrev Cx.fs (X : Cx) : List Addr := frs X.outer
def Vis (sc : Scope) (x : Str) : Prop := sc.names.lookup x = some .local ∨ sc.names.lookup x = some .cell ∨ sc.names.lookup x = some .free
def Loc (sc : Scope) (x : Str) : Prop := sc.names.lookup x = some .local ∨ sc.names.lookup x = some .cell
def Look (env : Env) (h : Heap) (m : Str → Option Value) (x : Str) (u : Value) : Prop :=
  (env.kindOf x = some .local ∧ m x = some u) ∨ ((env.kindOf x = some .cell ∨ env.kindOf x = some .free) ∧ ∃ c, env.cells.lookup x = some c ∧ h.IsCell c (some u))
structure Cx.Ok (X : Cx) : Prop where
  mod : Mod X.K X.mg X.base
  kind : X.env.scope.kind = .function
  glob : X.env.globals = mainGlobals
  blt : X.env.builtins = builtinsNs
  above : X.s₀.heap.objs.size ≤ X.env.locals
  inj : ∀ x y c, X.env.cells.lookup x = some c → X.env.cells.lookup y = some c → x = y
  has : ∀ x, (X.env.kindOf x = some .cell ∨ X.env.kindOf x = some .free) → ∃ c, X.env.cells.lookup x = some c
  cab : ∀ x c, X.fn x = true → X.env.cells.lookup x = some c → X.s₀.heap.objs.size ≤ c
  hd : X.calm = true → X.A.handled = none
  frames : X.A.frames = some X.stack
  stk : X.stack = X.outer ∨ (X.stack = X.env :: X.outer ∧ X.env.frame = some X.env.locals)
  exf : ∀ b ∈ X.ex, b ≠ X.env.locals ∧ ∀ x c, X.env.cells.lookup x = some c → c ≠ b
  bs : ∀ b o, X.base.get? b = some o → X.s₀.heap.get? b = some o ∧ X.H₀ b = none
  bsz : X.base.objs.size ≤ X.s₀.heap.objs.size
  noex : ∀ b o, X.base.get? b = some o → b ∉ X.ex
  exfs : ∀ b ∈ X.ex, b ∉ X.fs
  funs : X.s₀.heap.FunFrames X.base X.outer
  frf : ∀ b ∈ X.fs, X.H₀ b = none
structure Inv (X : Cx) (pins : List (Addr × Obj)) (σ : List (Option V)) (H : Hp) (s : Shared) : Prop where
  ok : X.Ok
  os : s.os = X.s₀.os
  bare : AllBare s.gens
  base : Un X.fs X.ex X.H₀ H X.s₀.heap s.heap
  loc : ∃ m, s.heap.Ns X.env.locals m ∧ ∀ (i : Nat) (x : Str) (v : V), X.N[i]? = some x → σ[i]? = some (some v) → Vis X.env.scope x → ∃ u, RelV v u ∧ Look X.env s.heap m x u
  cell : ∀ x c, X.env.cells.lookup x = some c → ∃ v, s.heap.IsCell c v
  free : H X.env.locals = none
  freeC : ∀ x c, X.env.cells.lookup x = some c → H c = none
  pin : ∀ p ∈ X.pn ++ pins, s.heap.get? p.1 = some p.2 ∧ H p.1 = none ∧ p.1 ≠ X.env.locals ∧ p.1 ∉ X.fs ∧ ∀ v, p.2.data ≠ .cell v
  hok : HOk X.prog X.w H s.heap
  len : σ.length = X.N.length
section
variable {X : Cx} {pins : List (Addr × Obj)} {σ : List (Option V)} {H H' : Hp} {s : Shared} {h' : Heap}
theorem Cx.Ok.nofr (ok : X.Ok) {b : Addr} {o : Obj} (e : X.base.get? b = some o) : b ∉ X.fs := fun hb => by
  have := (ok.funs.mem hb).1
  rw [e] at this; cases this
theorem Inv.bs (I : Inv X pins σ H s) : ∀ b o, X.base.get? b = some o → s.heap.get? b = some o ∧ H b = none := fun b o e =>
  ⟨I.base.keep b o (I.ok.bs b o e).1 (I.ok.bs b o e).2 (I.ok.nofr e) (I.ok.noex b o e), I.base.free b o (I.ok.bs b o e).1 (I.ok.bs b o e).2 (I.ok.noex b o e)⟩
theorem Inv.bk (I : Inv X pins σ H s) : ∀ b o, X.base.get? b = some o → s.heap.get? b = some o := fun b o e => (I.bs b o e).1
theorem Inv.mod (I : Inv X pins σ H s) : Mod X.K X.mg X.base := I.ok.mod
theorem Inv.kIn (I : Inv X pins σ H s) : X.K.In s.heap := I.ok.mod.kin.keeps I.bk
theorem Inv.nolimit (I : Inv X pins σ H s) : s.heap.NoLimit := I.ok.mod.nolimit.keeps I.bk
theorem Inv.lt (I : Inv X pins σ H s) : X.env.locals < s.heap.objs.size := let ⟨_, hn, _⟩ := I.loc; hn.lt
theorem Inv.sz (I : Inv X pins σ H s) : X.s₀.heap.objs.size ≤ s.heap.objs.size := Nat.le_trans I.ok.above (Nat.le_of_lt I.lt)
theorem Inv.nofs (I : Inv X pins σ H s) {a : Addr} (h : s.heap.objs.size ≤ a) : a ∉ X.fs := fun hb => by
  obtain ⟨_, o, ho, _⟩ := I.ok.funs.mem hb
  exact absurd (Nat.lt_of_lt_of_le (Heap.lt_size ho) (Nat.le_trans I.sz h)) (Nat.lt_irrefl _)
theorem Inv.cne (I : Inv X pins σ H s) : ∀ x c, X.env.cells.lookup x = some c → c ≠ X.env.locals := fun x c e z => by
  obtain ⟨v, o, ho, hd⟩ := I.cell x c e
  obtain ⟨m, ⟨o', es, ep, ho', hd', _⟩, _⟩ := I.loc
  rw [z, ho'] at ho; cases ho; rw [hd'] at hd; cases hd
theorem Inv.funs (I : Inv X pins σ H s) : s.heap.FunFrames X.base X.outer := by
  have all : ∀ (l : List Env), (∀ b ∈ frs l, b ∈ X.fs) → X.s₀.heap.FunFrames X.base l → s.heap.FunFrames X.base l := by
    intro l
    induction l with
    | nil => intro _ _; trivial
    | cons env r ih =>
      intro hs hl
      obtain ⟨hk, ⟨L, o, hf, hn, ho, hd⟩, hr⟩ := hl
      have hL : L ∈ X.fs := hs L (by unfold frs; rw [List.filterMap_cons, hf]; exact List.mem_cons_self)
      obtain ⟨sl, e⟩ := I.base.slot L o ho (I.ok.frf L hL) hL fun z => I.ok.exfs L z hL
      exact ⟨hk, ⟨L, _, hf, hn, e, hd⟩, ih (fun b hb => hs b (by unfold frs; rw [List.filterMap_cons, hf]; exact List.mem_cons_of_mem _ hb)) hr⟩
  exact all X.outer (fun _ hb => hb) I.ok.funs
theorem Inv.stack (I : Inv X pins σ H s) : s.heap.FunFrames X.base X.stack := by
  rcases I.ok.stk with e | ⟨e, hf⟩
  · rw [e]; exact I.funs
  · rw [e]
    obtain ⟨m, hn, _⟩ := I.loc
    refine .cons (by rw [I.ok.kind]; decide) hf hn ?_ I.funs
    exact Heap.get?_none_of_le (Nat.le_trans I.ok.bsz I.ok.above)
theorem Inv.stkSub (I : Inv X pins σ H s) : ∀ b ∈ frs X.stack, b ∈ X.env.locals :: X.fs := fun b hb => by
  rcases I.ok.stk with e | ⟨e, hf⟩
  · rw [e] at hb; exact List.mem_cons_of_mem _ hb
  · rw [e] at hb
    unfold frs at hb
    rw [List.filterMap_cons, hf] at hb
    exact hb
theorem Inv.stkFree (I : Inv X pins σ H s) : ∀ b ∈ frs X.stack, H b = none := fun b hb => by
  rcases List.mem_cons.mp (I.stkSub b hb) with e | hb
  · rw [e]; exact I.free
  · obtain ⟨_, o, ho, _⟩ := I.ok.funs.mem hb
    exact I.base.free b o ho (I.ok.frf b hb) fun z => I.ok.exfs b z hb
theorem Inv.step {g' : Array GenState} {t' : Nat} {d' : Drawn} {ch : List Addr} (I : Inv X pins σ H s)
    (hch : ∀ b ∈ ch, (b ∈ X.ex ∨ X.s₀.heap.objs.size ≤ b) ∧ b ≠ X.env.locals ∧ (∀ x c, X.env.cells.lookup x = some c → c ≠ b) ∧ ∀ p ∈ X.pn ++ pins, p.1 ≠ b)
    (keep : ∀ b o, b ≠ X.env.locals → b ∉ X.fs → b ∉ ch → s.heap.get? b = some o → H b = none → h'.get? b = some o)
    (slot : ∀ b o, b ≠ X.env.locals → b ∈ X.fs → b ∉ ch → s.heap.get? b = some o → H b = none → ∃ sl, h'.get? b = some { o with slots := sl }) (free : ∀ b o, b ∉ ch → s.heap.get? b = some o → H b = none → H' b = none)
    (there : ∀ b o, b ∉ ch → s.heap.get? b = some o → ∃ o', h'.get? b = some o')
    (tups : ∀ b xs, H b = some (.tup xs) → H' b = some (.tup xs)) (frzs : ∀ b o u, H b = some (.frz o u) → H' b = some (.frz o u)) (tbls : ∀ b ps, H b = some (.tbl ps) → ∃ more, H' b = some (.tbl (ps ++ more)))
    (ns : ∀ m, s.heap.Ns X.env.locals m → h'.Ns X.env.locals m) (hok : HOk X.prog X.w H' h') (hg : AllBare g') :
    Inv X pins σ H' { s with heap := h', gens := g', drawn := d', toks := t' } := by
  have neL : ∀ b o, X.s₀.heap.get? b = some o → b ≠ X.env.locals := fun b o e => Nat.ne_of_lt (Nat.lt_of_lt_of_le (Heap.lt_size e) I.ok.above)
  have neC : ∀ b o, X.s₀.heap.get? b = some o → b ∉ X.ex → b ∉ ch := fun b o e hx hb => by
    rcases (hch b hb).1 with z | z
    · exact hx z
    · exact absurd (Nat.lt_of_lt_of_le (Heap.lt_size e) z) (Nat.lt_irrefl _)
  have cellK : ∀ x c, X.env.cells.lookup x = some c → ∀ v, s.heap.IsCell c v → h'.IsCell c v := fun x c e v ⟨o, ho, hd⟩ => by
    have nch : c ∉ ch := fun z => (hch c z).2.2.1 x c e rfl
    by_cases hc : c ∈ X.fs
    · obtain ⟨sl, q⟩ := slot c o (I.cne x c e) hc nch ho (I.freeC x c e)
      exact ⟨_, q, hd⟩
    · exact ⟨o, keep c o (I.cne x c e) hc nch ho (I.freeC x c e), hd⟩
  refine ⟨I.ok, I.os, hg, ⟨fun b o e n hb hx => ?_, fun b o e n hb hx => ?_, fun b o e n hx => ?_, fun b o e hx => ?_, fun b xs e => tups b xs (I.base.tups b xs e), fun b o xs e => frzs b o xs (I.base.frzs b o xs e), fun b ps e => ?_⟩, ?_, fun x c e => ?_, ?_, fun x c e => ?_, fun p hp => ?_, hok, I.len⟩
  · exact keep b o (neL b o e) hb (neC b o e hx) (I.base.keep b o e n hb hx) (I.base.free b o e n hx)
  · obtain ⟨sl, e1⟩ := I.base.slot b o e n hb hx
    obtain ⟨sl', e2⟩ := slot b _ (neL b o e) hb (neC b o e hx) e1 (I.base.free b o e n hx)
    exact ⟨sl', e2⟩
  · obtain ⟨o', e1⟩ := I.base.there b o e hx
    exact free b o' (neC b o e hx) e1 (I.base.free b o e n hx)
  · obtain ⟨o', e1⟩ := I.base.there b o e hx
    exact there b o' (neC b o e hx) e1
  · obtain ⟨m1, e1⟩ := I.base.tbls b ps e
    obtain ⟨m2, e2⟩ := tbls b _ e1
    exact ⟨m1 ++ m2, by rw [e2, Array.append_assoc]⟩
  · obtain ⟨m, hn, hl⟩ := I.loc
    refine ⟨m, ns m hn, fun i x v e1 e2 e3 => ?_⟩
    obtain ⟨u, r, l⟩ := hl i x v e1 e2 e3
    refine ⟨u, r, ?_⟩
    rcases l with l | ⟨k, c, e, z⟩
    · exact .inl l
    · exact .inr ⟨k, c, e, cellK x c e _ z⟩
  · obtain ⟨v, z⟩ := I.cell x c e
    exact ⟨v, cellK x c e v z⟩
  · obtain ⟨m, ⟨o, _, _, ho, _⟩, _⟩ := I.loc
    exact free _ o (fun z => (hch _ z).2.1 rfl) ho I.free
  · obtain ⟨v, o, ho, hd⟩ := I.cell x c e
    exact free c o (fun z => (hch c z).2.2.1 x c e rfl) ho (I.freeC x c e)
  · obtain ⟨e, n, ne, nf, d⟩ := I.pin p hp
    have nch : p.1 ∉ ch := fun z => (hch p.1 z).2.2.2 p hp rfl
    exact ⟨keep p.1 p.2 ne nf nch e n, free p.1 p.2 nch e n, ne, nf, d⟩
theorem Inv.un {t' : Nat} (I : Inv X pins σ H s) (u : Un X.fs [] H H' s.heap h') (hok : HOk X.prog X.w H' h') : Inv X pins σ H' { s with heap := h', toks := t' } := by
  obtain ⟨m, ⟨o, es, ep, ho, r⟩, _⟩ := id I.loc
  obtain ⟨sl, hL⟩ := u.any ho I.free (by simp)
  exact I.step (g' := s.gens) (d' := s.drawn) (ch := []) (fun _ z => nomatch z) (fun b o _ hb _ e n => u.keep b o e n hb (by simp)) (fun b o _ hb _ e n => u.slot b o e n hb (by simp)) (fun b o _ e n => u.free b o e n (by simp)) (fun b o _ e => u.there b o e (by simp)) u.tups u.frzs u.tbls (fun m' hm => by
    obtain ⟨o', es', ep', ho', r'⟩ := hm
    rw [ho] at ho'; cases ho'
    exact ⟨_, es', ep', hL, r'⟩) hok I.bare
theorem Inv.call {g' : Array GenState} {t' : Nat} {d' : Drawn} {ch : List Addr} (I : Inv X pins σ H s) (u : Un (frs X.stack) ch H H' s.heap h') (hok : HOk X.prog X.w H' h') (hg : AllBare g')
    (hch : ∀ b ∈ ch, (b ∈ X.ex ∨ X.s₀.heap.objs.size ≤ b) ∧ b ≠ X.env.locals ∧ (∀ x c, X.env.cells.lookup x = some c → c ≠ b) ∧ ∀ p ∈ X.pn ++ pins, p.1 ≠ b) :
    Inv X pins σ H' { s with heap := h', gens := g', drawn := d', toks := t' } := by
  obtain ⟨m, ⟨o, es, ep, ho, r⟩, _⟩ := id I.loc
  obtain ⟨sl, hL⟩ := u.any ho I.free fun z => (hch _ z).2.1 rfl
  exact I.step (ch := ch) hch (fun b o hL hb hc e n => u.keep b o e n (fun z => (List.mem_cons.mp (I.stkSub b z)).elim hL hb) hc) (fun b o _ _ hc e n => u.any e n hc) (fun b o hc e n => u.free b o e n hc) (fun b o hc e => u.there b o e hc) u.tups u.frzs u.tbls (fun m' hm => by
    obtain ⟨o', es', ep', ho', r'⟩ := hm
    rw [ho] at ho'; cases ho'
    exact ⟨_, es', ep', hL, r'⟩) hok hg
theorem Inv.turned {t' : Nat} {it : Addr} (I : Inv X pins σ H s) (k : ∀ b o, b ≠ it → s.heap.get? b = some o → h'.get? b = some o) (hn : H it = none) (hL : it ≠ X.env.locals)
    (h1 : it ∈ X.ex ∨ X.s₀.heap.objs.size ≤ it) (h2 : ∀ x c, X.env.cells.lookup x = some c → c ≠ it) (h3 : ∀ p ∈ X.pn ++ pins, p.1 ≠ it) : Inv X pins σ H { s with heap := h', toks := t' } := by
  have nit : ∀ b u, H b = some u → b ≠ it := fun b u e z => by rw [z, hn] at e; cases e
  refine I.step (g' := s.gens) (d' := s.drawn) (ch := [it]) (fun b hb => ?_) (fun b o _ _ hc e _ => k b o (fun z => hc (by simp [z])) e) (fun b o _ _ hc e _ => ⟨o.slots, k b o (fun z => hc (by simp [z])) e⟩) (fun _ _ _ _ n => n)
    (fun b o hc e => ⟨o, k b o (fun z => hc (by simp [z])) e⟩) (fun _ _ e => e) (fun _ _ _ e => e) (fun b ps e => ⟨#[], by rw [e]; simp⟩) (fun m hm => ?_) (fun b u e => ?_) I.bare
  · have e : b = it := by simpa using hb
    subst e
    exact ⟨h1, hL, h2, h3⟩
  · obtain ⟨o, es, ep, ho, r⟩ := hm
    exact ⟨o, es, ep, k _ o (Ne.symm hL) ho, r⟩
  · refine (I.hok b u e).stay (fun c v hc q => k c v ?_ q) (fun _ q => q) fun _ _ q => q
    rcases hc with z | z
    · rw [z]; exact nit b u e
    · exact nit c _ z
theorem Inv.tok (I : Inv X pins σ H s) (t : Nat) : Inv X pins σ H { s with toks := t } := I.un (h' := s.heap) (t' := t) Un.refl I.hok
theorem Inv.kept {t' : Nat} (I : Inv X pins σ H s) (k : ∀ b u, s.heap.get? b = some u → h'.get? b = some u) : Inv X pins σ H { s with heap := h', toks := t' } := I.un (Un.kept k) (I.hok.kept k)
theorem Inv.laid {a : Addr} {o : HO} {t' : Nat} (I : Inv X pins σ H s) (k : ∀ b u, s.heap.get? b = some u → h'.get? b = some u) (hp : s.heap.objs.size ≤ a) (new : ObjOk X.prog X.w (upd H a o) h' a o) :
    Inv X pins σ (upd H a o) { s with heap := h', toks := t' } := I.un (Un.laid k hp (I.hok.fresh hp)) (I.hok.laid k hp new)
theorem Inv.write {x e : Addr} {o : HO} {t' : Nat} (I : Inv X pins σ H s) (mu : Mut (H x)) (he : e = x ∨ H e = some (.own x)) (k : ∀ b u, b ≠ e → s.heap.get? b = some u → h'.get? b = some u) (heo : ∃ u, h'.get? e = some u)
    (new : ObjOk X.prog X.w (upd H x o) h' x o) : Inv X pins σ (upd H x o) { s with heap := h', toks := t' } := I.un (Un.write mu he k heo) (I.hok.write mu he k heo new)
theorem Inv.pins_of {pins' : List (Addr × Obj)} (I : Inv X pins σ H s) (h : ∀ p ∈ pins', s.heap.get? p.1 = some p.2 ∧ H p.1 = none ∧ p.1 ≠ X.env.locals ∧ p.1 ∉ X.fs ∧ ∀ v, p.2.data ≠ .cell v) : Inv X pins' σ H s :=
  ⟨I.ok, I.os, I.bare, I.base, I.loc, I.cell, I.free, I.freeC, fun p hp => (List.mem_append.mp hp).elim (fun z => I.pin p (List.mem_append_left _ z)) (h p), I.hok, I.len⟩
theorem nodup_ix {N : List Str} (hN : N.Nodup) {i j : Nat} {x : Str} (a : N[i]? = some x) (b : N[j]? = some x) : i = j := by
  obtain ⟨h1, e1⟩ := List.getElem?_eq_some_iff.mp a
  obtain ⟨h2, e2⟩ := List.getElem?_eq_some_iff.mp b
  exact (List.getElem_inj hN).mp (e1.trans e2.symm)
theorem store_ok2 {M : Model} {A : Around} {E : Value → Shared → Prop} {i : Nat} {x : Str} {v : V} {u : Value} {Q : Unit → Shared → Prop} (I : Inv X pins σ H s) (hN : X.N.Nodup) (hi : X.N[i]? = some x) (hx : Loc X.env.scope x) (r : RelV v u)
    (h : ∀ s', Inv X pins (σ.set i (some v)) H s' → (∃ a, Heap.SameBut a s.heap s'.heap ∧ (a = X.env.locals ∨ X.env.cells.lookup x = some a)) → Q () s') (hf : X.fn x = true ∨ X.env.scope.names.lookup x = some .local := by first | exact .inl rfl | exact .inr rfl | assumption) : wpAny M A (storeName X.env x u) Q E s := by
  obtain ⟨m, hn, hl⟩ := id I.loc
  have hcls : (X.env.scope.kind == .class || (X.env.scope.kind == .module && X.env.locals != X.env.globals)) = false := by rw [I.ok.kind]; rfl
  have hiσ : i < σ.length := by rw [I.len]; exact (List.getElem?_eq_some_iff.mp hi).1
  have cne := I.cne
  have tracked : ∀ {a : Addr} {h' : Heap}, (∃ o, s.heap.get? a = some o ∧ H a = none) → Heap.SameBut a s.heap h' → HOk X.prog X.w H h' := fun {a h'} ha hs b ob e => by
    obtain ⟨_, _, hfree⟩ := ha
    refine (I.hok b ob e).stay (fun c w' hc q => (hs.2 c ?_).trans q) (fun _ q => q) fun _ _ q => q
    rintro rfl
    rcases hc with rfl | hc
    · rw [hfree] at e; cases e
    · rw [hfree] at hc; cases hc
  rcases hx with hk | hk
  · refine wpAny_storeName_local hk hn (fun h' hn' hs => ?_) hcls
    obtain ⟨oL, _, _, hoL, _⟩ := id hn
    refine h _ ⟨I.ok, I.os, I.bare, ⟨fun b o e n hb hx => ?_, fun b o e n hb hx => ?_, I.base.free, fun b o e hx => ?_, I.base.tups, I.base.frzs, I.base.tbls⟩, ⟨_, hn', fun j y v' e1 e2 e3 => ?_⟩, fun y c e => ?_, I.free, I.freeC, fun p hp => ?_, tracked ⟨oL, hoL, I.free⟩ hs, by simpa using I.len⟩ ⟨_, hs, .inl rfl⟩
    · exact (hs.2 b (Nat.ne_of_lt (Nat.lt_of_lt_of_le (Heap.lt_size e) I.ok.above))).trans (I.base.keep b o e n hb hx)
    · obtain ⟨sl, e1⟩ := I.base.slot b o e n hb hx
      exact ⟨sl, (hs.2 b (Nat.ne_of_lt (Nat.lt_of_lt_of_le (Heap.lt_size e) I.ok.above))).trans e1⟩
    · obtain ⟨o', e1⟩ := I.base.there b o e hx
      exact ⟨o', (hs.2 b (Nat.ne_of_lt (Nat.lt_of_lt_of_le (Heap.lt_size e) I.ok.above))).trans e1⟩
    · by_cases hj : j = i
      · subst hj
        rw [hi] at e1; cases e1
        rw [List.getElem?_set_self hiσ] at e2
        cases e2
        exact ⟨u, r, .inl ⟨hk, by simp⟩⟩
      · rw [List.getElem?_set_ne (Ne.symm hj)] at e2
        obtain ⟨u', r', q⟩ := hl j y v' e1 e2 e3
        refine ⟨u', r', ?_⟩
        rcases q with ⟨k, e⟩ | ⟨k, c, e, z⟩
        · refine .inl ⟨k, ?_⟩
          have : y ≠ x := fun e => hj (nodup_ix hN e1 (e ▸ hi))
          simp [this, e]
        · exact .inr ⟨k, c, e, z.sameBut hs (cne y c e)⟩
    · obtain ⟨w', z⟩ := I.cell y c e
      exact ⟨w', z.sameBut hs (cne y c e)⟩
    · obtain ⟨e, n, ne, nf, d⟩ := I.pin p hp
      exact ⟨(hs.2 p.1 ne).trans e, n, ne, nf, d⟩
  · have hfn : X.fn x = true := by
      rcases hf with z | z
      · exact z
      · rw [z] at hk; cases hk
    obtain ⟨c, hc⟩ := I.ok.has x (.inl hk)
    obtain ⟨w', z⟩ := I.cell x c hc
    refine wpAny_storeName_cell I.ok.kind hk hc z (fun h' hc' hs => ?_)
    obtain ⟨oc, hoc, hocd⟩ := id z
    refine h { s with heap := h' } ⟨I.ok, I.os, I.bare, ⟨fun b o e n hb hx => ?_, fun b o e n hb hx => ?_, I.base.free, fun b o e hx => ?_, I.base.tups, I.base.frzs, I.base.tbls⟩, ⟨m, hn.sameBut hs (Ne.symm (cne x c hc)), fun j y v' e1 e2 e3 => ?_⟩, fun y c' e => ?_, I.free, I.freeC, fun p hp => ?_, tracked ⟨oc, hoc, I.freeC x c hc⟩ hs, by simpa using I.len⟩ ⟨c, hs, .inr hc⟩
    · exact (hs.2 b (Nat.ne_of_lt (Nat.lt_of_lt_of_le (Heap.lt_size e) (I.ok.cab x c hfn hc)))).trans (I.base.keep b o e n hb hx)
    · obtain ⟨sl, e1⟩ := I.base.slot b o e n hb hx
      exact ⟨sl, (hs.2 b (Nat.ne_of_lt (Nat.lt_of_lt_of_le (Heap.lt_size e) (I.ok.cab x c hfn hc)))).trans e1⟩
    · obtain ⟨o', e1⟩ := I.base.there b o e hx
      exact ⟨o', (hs.2 b (Nat.ne_of_lt (Nat.lt_of_lt_of_le (Heap.lt_size e) (I.ok.cab x c hfn hc)))).trans e1⟩
    · by_cases hj : j = i
      · subst hj
        rw [hi] at e1; cases e1
        rw [List.getElem?_set_self hiσ] at e2
        cases e2
        exact ⟨u, r, .inr ⟨.inl hk, c, hc, hc'⟩⟩
      · rw [List.getElem?_set_ne (Ne.symm hj)] at e2
        obtain ⟨u', r', q⟩ := hl j y v' e1 e2 e3
        refine ⟨u', r', ?_⟩
        rcases q with q | ⟨k, c', e, z'⟩
        · exact .inl q
        · refine .inr ⟨k, c', e, z'.sameBut hs ?_⟩
          rintro rfl
          exact hj (nodup_ix hN e1 (I.ok.inj _ _ _ e hc ▸ hi))
    · by_cases hcc : c' = c
      · subst hcc; exact ⟨_, hc'⟩
      · obtain ⟨w2, z2⟩ := I.cell y c' e
        exact ⟨w2, z2.sameBut hs hcc⟩
    · obtain ⟨e, n, ne, nf, d⟩ := I.pin p hp
      refine ⟨(hs.2 p.1 ?_).trans e, n, ne, nf, d⟩
      intro q
      rw [q, hoc] at e
      have q' : oc = p.2 := Option.some.inj e
      exact d w' (by rw [← q']; exact hocd)
theorem store_ok {M : Model} {A : Around} {E : Value → Shared → Prop} {i : Nat} {x : Str} {v : V} {u : Value} {Q : Unit → Shared → Prop} (I : Inv X pins σ H s) (hN : X.N.Nodup) (hi : X.N[i]? = some x) (hx : Loc X.env.scope x) (r : RelV v u)
    (h : ∀ s', Inv X pins (σ.set i (some v)) H s' → Q () s') (hf : X.fn x = true ∨ X.env.scope.names.lookup x = some .local := by first | exact .inl rfl | exact .inr rfl | assumption) : wpAny M A (storeName X.env x u) Q E s :=
  store_ok2 I hN hi hx r (fun s' I' _ => h s' I') hf
theorem Inv.call' {s' : Shared} {ch : List Addr} (I : Inv X pins σ H s) (ho : s'.os = s.os) (u : Un (frs X.stack) ch H H' s.heap s'.heap) (hok : HOk X.prog X.w H' s'.heap) (hg : AllBare s'.gens)
    (hch : ∀ b ∈ ch, (b ∈ X.ex ∨ X.s₀.heap.objs.size ≤ b) ∧ b ≠ X.env.locals ∧ (∀ x c, X.env.cells.lookup x = some c → c ≠ b) ∧ ∀ p ∈ X.pn ++ pins, p.1 ≠ b) : Inv X pins σ H' s' := by
  obtain ⟨h', g', d', t', o'⟩ := s'
  have e : o' = s.os := ho
  subst e
  exact I.call (g' := g') (t' := t') (d' := d') u hok hg hch
end
abbrev XK := Value → Option Addr → Hp → Prop
abbrev St := List (Option V)
abbrev VK := V → Hp → Prop
abbrev TE := St → Hp → VK → Prop
abbrev TT := St → Hp → (Bool → Hp → Prop) → Prop
abbrev TA := St → Hp → (List V → Hp → Prop) → Prop
structure Ends where
  nx : St → Hp → Prop
  rt : VK
  bk : St → Hp → Prop := fun _ _ => False
  ct : St → Hp → Prop := fun _ _ => False
abbrev TS := Ends → St → Hp → Prop
def EP (X : Cx) (pins : List (Addr × Obj)) (σ : St) (Q : VK) (u : Value) (s' : Shared) : Prop := ∃ v H', Inv X pins σ H' s' ∧ RelV v u ∧ Q v H'
def TP (X : Cx) (pins : List (Addr × Obj)) (σ : St) (Q : Bool → Hp → Prop) (b : Bool) (s' : Shared) : Prop := ∃ H', Inv X pins σ H' s' ∧ Q b H'
def AP (X : Cx) (pins : List (Addr × Obj)) (σ : St) (Q : List V → Hp → Prop) (us : List Value) (s' : Shared) : Prop := ∃ vs H', Inv X pins σ H' s' ∧ Vals vs us ∧ Q vs H'
def SP (X : Cx) (pins : List (Addr × Obj)) (D : Ends) (f : Flow) (s' : Shared) : Prop :=
  match f with
  | .next => ∃ σ' H', Inv X pins σ' H' s' ∧ D.nx σ' H'
  | .brk => ∃ σ' H', Inv X pins σ' H' s' ∧ D.bk σ' H'
  | .cont => ∃ σ' H', Inv X pins σ' H' s' ∧ D.ct σ' H'
  | .ret u => ∃ v σ' H', Inv X pins σ' H' s' ∧ RelV v u ∧ D.rt v H'
def PE (X : Cx) (e : Expr) (t : TE) : Prop :=
  ∀ (pins : List (Addr × Obj)) (s : Shared) (σ : St) (H : Hp) (Q : VK), Inv X pins σ H s → t σ H Q → wpAny (model X.prog X.w) X.A (eval e X.env) (EP X pins σ Q) X.xe s
def PT (X : Cx) (e : Expr) (t : TT) : Prop :=
  ∀ (pins : List (Addr × Obj)) (s : Shared) (σ : St) (H : Hp) (Q : Bool → Hp → Prop), Inv X pins σ H s → t σ H Q → wpAny (model X.prog X.w) X.A (isTrue e X.env (eval e X.env)) (TP X pins σ Q) X.xe s
def PW (X : Cx) (e : Expr) (t : TT) : Prop :=
  ∀ (whole : Sem Value) (pins : List (Addr × Obj)) (s : Shared) (σ : St) (H : Hp) (Q : Bool → Hp → Prop), Inv X pins σ H s → t σ H Q → wpAny (model X.prog X.w) X.A (isTrue e X.env whole) (TP X pins σ Q) X.xe s
theorem PW.pt {X : Cx} {e : Expr} {t : TT} (h : PW X e t) : PT X e t := h _
def PA (X : Cx) (es : List Expr) (t : TA) : Prop :=
  ∀ (pos : Pos) (pins : List (Addr × Obj)) (s : Shared) (σ : St) (H : Hp) (Q : List V → Hp → Prop), Inv X pins σ H s → t σ H Q → wpAny (model X.prog X.w) X.A (spliced (backTo pos (starEach es X.env))) (AP X pins σ Q) X.xe s
def PS (X : Cx) (st : Stmt) (t : TS) : Prop :=
  ∀ (pins : List (Addr × Obj)) (s : Shared) (σ : St) (H : Hp) (D : Ends), Inv X pins σ H s → t D σ H → wpAny (model X.prog X.w) X.A (exec st X.env) (SP X pins D) X.xe s
def PSs (X : Cx) (st : List Stmt) (t : TS) : Prop :=
  ∀ (pins : List (Addr × Obj)) (s : Shared) (σ : St) (H : Hp) (D : Ends), Inv X pins σ H s → t D σ H → wpAny (model X.prog X.w) X.A (execs st X.env) (SP X pins D) X.xe s
theorem thn {α : Type} {t : Sem α} {Q Q' : α → Shared → Prop} {M : Model} {A : Around} {E : Value → Shared → Prop} {s : Shared} (h : wpAny M A t Q E s) (hQ : ∀ a s, Q a s → Q' a s) : wpAny M A t Q' E s := wpAny_mono h hQ fun _ _ x => x
end L2
namespace L2
open PySem PySem.Spec PyProof.Rows
section
variable {X : Cx}
def tVar (i : Nat) : TE := fun σ H Q => ∃ v, σ[i]? = some (some v) ∧ Q v H
def tC (v : V) : TE := fun _ H Q => Q v H
theorem pe_var {i : Nat} {x : Str} {pos : Pos} (hN : X.N[i]? = some x) (hv : Vis X.env.scope x) (hd : (x == ("__debug__" : Str)) = false := by decide) (hcd : (x == ("__classdict__" : Str)) = false := by decide) : PE X (.Name x pos) (tVar i) := by
  intro pins s σ H Q I h
  obtain ⟨v, e, h⟩ := h
  obtain ⟨m, hn, hl⟩ := I.loc
  obtain ⟨u, r, l⟩ := hl i x v hN e hv
  have fin : EP X pins σ Q u s := ⟨v, H, I, r, h⟩
  rcases l with ⟨hk, hm⟩ | ⟨hk, c, hc, hcell⟩
  · exact wpAny_Name (wpAny_loadName_local I.ok.kind hk hn hm fin) hd
  · rcases hk with hk | hk
    · exact wpAny_Name (wpAny_loadName_cell I.ok.kind hk hc hcell fin) hd
    · exact wpAny_Name (wpAny_loadName_free I.ok.kind hk hc hcell fin hcd) hd
theorem pe_int {i j pos} : PE X (.Constant (.int i) j pos) (tC (.int i)) := fun _ _ _ H _ I h => wpAny_Constant_int ⟨.int i, H, I.tok _, ⟨_, rfl⟩, h⟩
theorem pe_bl {b j pos} : PE X (.Constant (.bool b) j pos) (tC (.bl b)) := fun _ _ _ H _ I h => Constant_bool ⟨.bl b, H, I, rfl, h⟩
def Gl (X : Cx) (x : Str) : Prop := X.env.kindOf x = some .globalImplicit
theorem ld_glob {E : Value → Shared → Prop} {pins : List (Addr × Obj)} {s : Shared} {σ : St} {H : Hp} {x : Str} {u : Value} {pos : Pos} {Q : Value → Shared → Prop} (I : Inv X pins σ H s) (hg : Gl X x) (hm : X.mg x = some u) (h : Q u s)
    (hd : (x == ("__debug__" : Str)) = false := by decide) : wpAny (model X.prog X.w) X.A (eval (.Name x pos) X.env) Q E s :=
  Calls.Name_function_global I.ok.kind hg (Calls.loadGlobal_global (by rw [I.ok.glob]; exact I.mod.glob.keeps I.bk) hm h) hd
theorem ld_blt {E : Value → Shared → Prop} {pins : List (Addr × Obj)} {s : Shared} {σ : St} {H : Hp} {x : Str} {u : Value} {pos : Pos} {Q : Value → Shared → Prop} (I : Inv X pins σ H s) (hg : Gl X x) (hm : X.mg x = none) (hv : bootBuiltins x = some u) (h : Q u s)
    (hn : x ≠ "__name__" := by decide) (hd : (x == ("__debug__" : Str)) = false := by decide) : wpAny (model X.prog X.w) X.A (eval (.Name x pos) X.env) Q E s := by
  obtain ⟨mb, h1, h2⟩ := I.mod.blt
  exact Calls.Name_function_global I.ok.kind hg (Calls.loadGlobal_builtin (by rw [I.ok.glob]; exact I.mod.glob.keeps I.bk) hm (by rw [I.ok.blt]; exact h1.keeps I.bk) ((h2 x hn).trans hv) h) hd
theorem pe_bltn {x : Str} {v : V} {u : Value} {pos : Pos} (hg : Gl X x) (hm : X.mg x = none) (hv : bootBuiltins x = some u) (r : RelV v u) (hn : x ≠ "__name__" := by decide) (hd : (x == ("__debug__" : Str)) = false := by decide) : PE X (.Name x pos) (tC v) :=
  fun _ _ _ H _ I h => ld_blt I hg hm hv ⟨v, H, I, r, h⟩ hn hd
variable {a b : Expr} {ta tb : TE} {pos : Pos}
def PC (X : Cx) (op : CmpOp) (a b : Expr) (t : TE) : Prop :=
  ∀ (pins : List (Addr × Obj)) (s : Shared) (σ : St) (H : Hp) (Q : VK), Inv X pins σ H s → t σ H Q →
    wpAny (model X.prog X.w) X.A (eval a X.env) (fun v s₁ => wpAny (model X.prog X.w) X.A (eval b X.env) (fun u s₂ => wpAny (model X.prog X.w) X.A (compareOp op v u) (EP X pins σ Q) X.xe s₂) X.xe s₁) X.xe s
theorem nobehind (b : Expr) {op : CmpOp} (h : op ≠ .In) (h2 : op ≠ .NotIn) : behindInMarks op b = false := by
  have e1 : (op == CmpOp.In) = false := by cases op <;> first | rfl | exact absurd rfl h
  have e2 : (op == CmpOp.NotIn) = false := by cases op <;> first | rfl | exact absurd rfl h2
  cases b <;> simp [behindInMarks, e1, e2]
def tB (t : TE) : TT := fun σ H Q => t σ H fun x H1 => ∃ c, x = .bl c ∧ Q c H1
theorem pt_cmp {op : CmpOp} {t : TE} (h : PC X op a b t) (h1 : behindInMarks op b = false := by first | exact nobehind _ (by decide) (by decide) | rfl) : PT X (.Compare a [op] [b] pos) (tB t) := by
  intro pins s σ H Q I hw
  refine wpAny_isTrue_Compare1 (thn (h pins s σ H _ I hw) fun v s1 h1 => thn h1 fun u s2 h2 => thn h2 fun c s3 ⟨x, H1, I1, r1, q1⟩ => ?_) h1
  obtain ⟨d, rfl, q⟩ := q1
  cases r1
  exact wpAny_truthy_bool ⟨H1, I1, q⟩
theorem pt_val {e : Expr} {t : TE} (h : PE X e t) (he : ∀ whole, isTrue e X.env whole = (do let v ← whole; standAt e.pos; holding [v] (truthy v)) := by intro _; rfl) : PT X e (tB t) := by
  intro pins s σ H Q I hw
  refine isTrue_plain (thn (h pins s σ H _ I hw) fun v s1 ⟨x, H1, I1, r1, q1⟩ => ?_) (he _)
  obtain ⟨d, rfl, q⟩ := q1
  cases r1
  exact wpAny_truthy_bool ⟨H1, I1, q⟩
variable {tA tB' : TT} {rest : List Expr}
def tAnd (t u : TT) : TT := fun σ H Q => t σ H fun c H1 => if c = true then u σ H1 Q else Q false H1
def tOr (t u : TT) : TT := fun σ H Q => t σ H fun c H1 => if c = true then Q true H1 else u σ H1 Q
def tNot (t : TT) : TT := fun σ H Q => t σ H fun c H1 => Q (!c) H1
theorem pw_and1 (ha : PT X a tA) : PW X (.BoolOp .And [a] pos) tA := by
  intro wh pins s σ H Q I h
  refine isTrue_and (thn (ha pins s σ H Q I h) fun c s1 e => ?_)
  cases c with
  | true => exact isTrue_and_nil e
  | false => exact e
theorem pw_or1 (ha : PT X a tA) : PW X (.BoolOp .Or [a] pos) tA := by
  intro wh pins s σ H Q I h
  refine isTrue_or (thn (ha pins s σ H Q I h) fun c s1 e => ?_)
  cases c with
  | false => exact isTrue_or_nil e
  | true => exact e
theorem pw_and (ha : PT X a tA) (hb : PW X (.BoolOp .And (b :: rest) pos) tB') : PW X (.BoolOp .And (a :: b :: rest) pos) (tAnd tA tB') := by
  intro wh pins s σ H Q I h
  refine isTrue_and (thn (ha pins s σ H _ I h) fun c s1 ⟨H1, I1, q1⟩ => ?_)
  cases c with
  | true => exact hb wh pins s1 σ H1 Q I1 q1
  | false => exact ⟨H1, I1, q1⟩
theorem pw_or (ha : PT X a tA) (hb : PW X (.BoolOp .Or (b :: rest) pos) tB') : PW X (.BoolOp .Or (a :: b :: rest) pos) (tOr tA tB') := by
  intro wh pins s σ H Q I h
  refine isTrue_or (thn (ha pins s σ H _ I h) fun c s1 ⟨H1, I1, q1⟩ => ?_)
  cases c with
  | true => exact ⟨H1, I1, q1⟩
  | false => exact hb wh pins s1 σ H1 Q I1 q1
theorem pt_not (ha : PT X a tA) : PT X (.UnaryOp .Not a pos) (tNot tA) := by
  intro pins s σ H Q I h
  exact isTrue_not (ha pins s σ H (fun c H1 => Q (!c) H1) I h)
def tAndV (ta tb : TE) : TE := fun σ H Q => ta σ H fun x H1 => ∃ c, x = .bl c ∧ if c = true then tb σ H1 Q else Q (.bl false) H1
def tOrV (ta tb : TE) : TE := fun σ H Q => ta σ H fun x H1 => ∃ c, x = .bl c ∧ if c = true then Q (.bl true) H1 else tb σ H1 Q
def tNotV (ta : TE) : TE := fun σ H Q => ta σ H fun x H1 => ∃ c, x = .bl c ∧ Q (.bl (!c)) H1
theorem pe_one {op} {t : TE} (h : PE X a t) : PE X (.BoolOp op [a] pos) t := fun pins s σ H Q I hw => BoolOp_one (h pins s σ H Q I hw)
theorem pe_and (ha : PE X a ta) (hb : PE X (.BoolOp .And (b :: rest) pos) tb) : PE X (.BoolOp .And (a :: b :: rest) pos) (tAndV ta tb) := by
  intro pins s σ H Q I h
  refine BoolOp_and (thn (ha pins s σ H _ I h) fun v s1 ⟨x, H1, I1, r1, q1⟩ => ?_)
  obtain ⟨c, rfl, q1⟩ := q1
  cases r1
  refine wpAny_truthy_bool ?_
  cases c with
  | true => exact hb pins s1 σ H1 Q I1 q1
  | false => exact ⟨.bl false, H1, I1, rfl, q1⟩
def tIf (t : TT) (ta tb : TE) : TE := fun σ H Q => t σ H fun c H1 => if c = true then ta σ H1 Q else tb σ H1 Q
end
end L2
namespace L2
open PySem PySem.Spec PyProof.Rows
def SqL (K : PySem.W.Frag) (H : Hp) (a : Addr) (xs : List V) : Prop :=
  Rd H a (.lst xs) ∨
    ∃ (o : Obj) (its : Array Value) (n : Nat), K.lookup a = some o ∧ o.cls = .type "list" ∧ o.dict = none ∧ o.data = .seq its n ∧ its.size ≤ sizeLine ∧ Vals xs its.toList
def SqT (K : PySem.W.Frag) (H : Hp) (a : Addr) (xs : List V) : Prop :=
  Rd H a (.tup xs) ∨
    ∃ (o : Obj) (its : Array Value) (n : Nat), K.lookup a = some o ∧ o.cls = .type "tuple" ∧ o.data = .seq its n ∧ its.size ≤ sizeLine ∧ Vals xs its.toList
def absV : Value → Option V
  | .none => some .non
  | .bool b => some (.bl b)
  | .int i _ => some (.int i)
  | .str x _ => some (.str x)
  | .bytes b _ => some (.byt b)
  | .float b _ => some (.flt b)
  | .ref a => some (.ref a)
  | .type n => some (.ty n)
  | _ => none
theorem RelV.abs {x : V} {u : Value} (r : RelV x u) : absV u = some x := by
  cases x with
  | non => cases r; rfl
  | bl _ => cases r; rfl
  | int _ => obtain ⟨t, rfl⟩ := r; rfl
  | str _ => obtain ⟨t, rfl⟩ := r; rfl
  | byt _ => obtain ⟨t, rfl⟩ := r; rfl
  | flt _ => obtain ⟨t, rfl⟩ := r; rfl
  | ref _ => cases r; rfl
  | ty _ => cases r; rfl
theorem RelV.inj {x y : V} {u : Value} (r : RelV x u) (q : RelV y u) : x = y := Option.some.inj (r.abs.symm.trans q.abs)
theorem Vals.inj : ∀ {xs ys : List V} {us : List Value}, Vals xs us → Vals ys us → xs = ys
  | _, _, _, .nil, .nil => rfl
  | _, _, _, .cons r t, .cons r' t' => by rw [r.inj r', Vals.inj t t']
section
variable {X : Cx} {pins : List (Addr × Obj)} {σ : St} {H : Hp} {s : Shared} {a : Addr} {xs ys : List V}
theorem SqL.of {K : PySem.W.Frag} (h : H a = some (.lst xs)) : SqL K H a xs := .inl (.inl h)
theorem SqT.of {K : PySem.W.Frag} (h : H a = some (.tup xs)) : SqT K H a xs := .inl (.inl h)
theorem Inv.list (I : Inv X pins σ H s) (h : SqL X.K H a xs) : ∃ its : List Value, Vals xs its ∧ PlainL s.heap a its.toArray ∧ xs.length ≤ sizeLine := by
  rcases h with h | ⟨o, its, n, hk, hc, hd, hs, hz, r⟩
  · obtain ⟨z, its, n, r, e⟩ := h.ok I.hok
    exact ⟨its, r, ⟨_, n, e, rfl, rfl, rfl⟩, z⟩
  · refine ⟨its.toList, r, ⟨o, n, I.kIn a o hk, hc, hd, by simpa using hs⟩, ?_⟩
    have e := r.length
    simp only [Array.length_toList] at e
    omega
theorem Inv.tuple (I : Inv X pins σ H s) (h : SqT X.K H a xs) : ∃ its : List Value, Vals xs its ∧ IsTup s.heap a its.toArray ∧ xs.length ≤ sizeLine := by
  rcases h with h | ⟨o, its, n, hk, hc, hs, hz, r⟩
  · obtain ⟨z, its, r, p⟩ := h.ok I.hok
    exact ⟨its, r, p, z⟩
  · refine ⟨its.toList, r, ⟨o, I.kIn a o hk, hc, n, by simpa using hs⟩, ?_⟩
    have e := r.length
    simp only [Array.length_toList] at e
    omega
theorem Inv.list_inj (I : Inv X pins σ H s) (h : SqL X.K H a xs) (h' : SqL X.K H a ys) : xs = ys := by
  obtain ⟨its, r, ⟨o, n, e, _, _, d⟩, _⟩ := I.list h
  obtain ⟨its', r', ⟨o', n', e', _, _, d'⟩, _⟩ := I.list h'
  rw [e] at e'; cases e'
  rw [d] at d'
  injection d' with d1 _
  have : its = its' := by simpa using congrArg Array.toList d1
  subst this
  exact r.inj r'
end
abbrev Cx.wish (X : Cx) (E : Value → Shared → Prop) : Cx := { X with xe := E }
abbrev Cx.nox (X : Cx) : Cx := X.wish fun _ _ => False
theorem Cx.Ok.wish {X : Cx} (ok : X.Ok) (E : Value → Shared → Prop) : (X.wish E).Ok :=
  ⟨ok.mod, ok.kind, ok.glob, ok.blt, ok.above, ok.inj, ok.has, ok.cab, ok.hd, ok.frames, ok.stk, ok.exf, ok.bs, ok.bsz, ok.noex, ok.exfs, ok.funs, ok.frf⟩
theorem Cx.Ok.unwish {X : Cx} {E : Value → Shared → Prop} (ok : (X.wish E).Ok) : X.Ok :=
  ⟨ok.mod, ok.kind, ok.glob, ok.blt, ok.above, ok.inj, ok.has, ok.cab, ok.hd, ok.frames, ok.stk, ok.exf, ok.bs, ok.bsz, ok.noex, ok.exfs, ok.funs, ok.frf⟩
section
variable {X : Cx} {pins : List (Addr × Obj)} {σ : St} {H : Hp} {s : Shared} {E : Value → Shared → Prop}
theorem Inv.wish (I : Inv X pins σ H s) (E : Value → Shared → Prop) : Inv (X.wish E) pins σ H s := ⟨I.ok.wish E, I.os, I.bare, I.base, I.loc, I.cell, I.free, I.freeC, I.pin, I.hok, I.len⟩
theorem Inv.unwish (I : Inv (X.wish E) pins σ H s) : Inv X pins σ H s := ⟨I.ok.unwish, I.os, I.bare, I.base, I.loc, I.cell, I.free, I.freeC, I.pin, I.hok, I.len⟩
theorem SP.unwish {D : Ends} {f : Flow} {s' : Shared} (h : SP (X.wish E) pins D f s') : SP X pins D f s' := by
  cases f with
  | next => obtain ⟨σ', H', I, q⟩ := h; exact ⟨σ', H', I.unwish, q⟩
  | brk => obtain ⟨σ', H', I, q⟩ := h; exact ⟨σ', H', I.unwish, q⟩
  | cont => obtain ⟨σ', H', I, q⟩ := h; exact ⟨σ', H', I.unwish, q⟩
  | ret u => obtain ⟨v, σ', H', I, r, q⟩ := h; exact ⟨v, σ', H', I.unwish, r, q⟩
theorem PE.nox {e : Expr} {t : TE} (h : PE X.nox e t) : PE X e t := fun pins s σ H Q I hw =>
  wpAny_mono (h pins s σ H Q (I.wish _) hw) (fun _ _ ⟨v, H', I', r, q⟩ => ⟨v, H', I'.unwish, r, q⟩) fun _ _ z => False.elim z
theorem PT.nox {e : Expr} {t : TT} (h : PT X.nox e t) : PT X e t := fun pins s σ H Q I hw =>
  wpAny_mono (h pins s σ H Q (I.wish _) hw) (fun _ _ ⟨H', I', q⟩ => ⟨H', I'.unwish, q⟩) fun _ _ z => False.elim z
theorem PSs.nox {st : List Stmt} {t : TS} (h : PSs X.nox st t) : PSs X st t := fun pins s σ H D I hw =>
  wpAny_mono (h pins s σ H D (I.wish _) hw) (fun _ _ q => q.unwish) fun _ _ z => False.elim z
end
section
variable {X : Cx} {st : Stmt} {rest : List Stmt} {t u : TS} {e : Expr} {te : TE} {pos : Pos}
def tNext : TS := fun D σ H => D.nx σ H
def tSeq (t u : TS) : TS := fun D σ H => t { D with nx := u D } σ H
theorem pss_nil : PSs X [] tNext := fun _ _ σ H _ I h => wpAny_execs_nil ⟨σ, H, I, h⟩
theorem pss_cons (h1 : PS X st t) (h2 : PSs X rest u) : PSs X (st :: rest) (tSeq t u) := by
  intro pins s σ H D I h
  refine wpAny_execs_cons (thn (h1 pins s σ H { D with nx := u D } I h) fun f s1 q => ?_)
  cases f with
  | next =>
    obtain ⟨σ', H', I', q⟩ := q
    exact h2 pins s1 σ' H' D I' q
  | ret v => exact q
  | brk => exact q
  | cont => exact q
theorem pss_one (h1 : PS X st t) : PSs X [st] t := by
  intro pins s σ H D I h
  refine wpAny_execs_cons (thn (h1 pins s σ H D I h) fun f s1 q => ?_)
  cases f with
  | next => exact wpAny_execs_nil q
  | ret v => exact q
  | brk => exact q
  | cont => exact q
theorem Inv.quiet {pins : List (Addr × Obj)} {σ : St} {H : Hp} {s : Shared} (I : Inv X pins σ H s) : interactive X.env = false := by simp [interactive, I.ok.kind]
def tDrop (te : TE) : TS := fun D σ H => te σ H fun _ H1 => D.nx σ H1
theorem ps_expr (he : PE X e te) (hs : swapsWith e none pos.line X.env = pure false := by rfl) : PS X (.Expr e pos) (tDrop te) := by
  intro pins s σ H D I h
  exact wpAny_Expr_any (thn (he pins s σ H _ I h) fun v s1 ⟨x, H1, I1, r1, q1⟩ => ⟨σ, H1, I1, q1⟩) I.quiet hs
def tRet (te : TE) : TS := fun D σ H => te σ H D.rt
theorem ps_ret (he : PE X e te) : PS X (.Return (some e) pos) (tRet te) := by
  intro pins s σ H D I h
  exact wpAny_Return_some (thn (he pins s σ H _ I h) fun v s1 ⟨x, H1, I1, r1, q1⟩ => ⟨x, σ, H1, I1, r1, q1⟩)
def tRetN : TS := fun D _ H => D.rt .non H
def tIfS (c : TT) (t u : TS) : TS := fun D σ H => c σ H fun b H1 => if b = true then t D σ H1 else u D σ H1
theorem ps_if {c : Expr} {a b : List Stmt} {tc : TT} (hc : PT X c tc) (ha : PSs X a t) (hb : PSs X b u) : PS X (.If c a b pos) (tIfS tc t u) := by
  intro pins s σ H D I h
  refine wpAny_If (thn (hc pins s σ H _ I h) fun d s1 ⟨H1, I1, q1⟩ => ?_)
  cases d with
  | true => exact ha pins s1 σ H1 D I1 q1
  | false => exact hb pins s1 σ H1 D I1 q1
end
abbrev TG := V → St → Hp → (St → Hp → Prop) → Prop
abbrev TGs := List V → St → Hp → (St → Hp → Prop) → Prop
def PG (X : Cx) (target : Expr) (t : TG) : Prop :=
  ∀ (pins : List (Addr × Obj)) (s : Shared) (σ : St) (H : Hp) (v : V) (u : Value) (Q : St → Hp → Prop), Inv X pins σ H s → RelV v u → t v σ H Q →
    wpAny (model X.prog X.w) X.A (assign target X.env u) (fun _ s' => ∃ σ' H', Inv X pins σ' H' s' ∧ Q σ' H') X.xe s
def PGs (X : Cx) (ts : List Expr) (t : TGs) : Prop :=
  ∀ (pins : List (Addr × Obj)) (s : Shared) (σ : St) (H : Hp) (vs : List V) (us : List Value) (Q : St → Hp → Prop), Inv X pins σ H s → Vals vs us → t vs σ H Q →
    wpAny (model X.prog X.w) X.A (assignInOrder ((assignEach ts X.env).map (·.2)) us) (fun _ s' => ∃ σ' H', Inv X pins σ' H' s' ∧ Q σ' H') X.xe s
abbrev TSet := V → V → V → Hp → (Hp → Prop) → Prop
section
variable {X : Cx} {pos : Pos}
def gName (i : Nat) : TG := fun v σ H Q => Q (σ.set i (some v)) H
theorem pg_name {i : Nat} {x : Str} (hN : X.N.Nodup) (hi : X.N[i]? = some x) (hx : Loc X.env.scope x) (hf : X.fn x = true ∨ X.env.scope.names.lookup x = some .local := by first | exact .inl rfl | exact .inr rfl | assumption) : PG X (.Name x pos) (gName i) := by
  intro pins s σ H v u Q I r h
  exact wpAny_assign_Name (store_ok I hN hi hx r (fun s' I' => ⟨_, H, I', h⟩) hf)
def gNil : TGs := fun vs σ H Q => vs = [] ∧ Q σ H
def gCons (t : TG) (u : TGs) : TGs := fun vs σ H Q => ∃ v r, vs = v :: r ∧ t v σ H fun σ' H' => u r σ' H' Q
def gTup (K : PySem.W.Frag) (n : Nat) (t : TGs) : TG := fun v σ H Q => ∃ a xs, v = .ref a ∧ SqT K H a xs ∧ xs.length = n ∧ t xs σ H Q
def gSub (to ti : TE) (t : TSet) : TG := fun v σ H Q => to σ H fun o H1 => ti σ H1 fun i H2 => t o i v H2 fun H3 => Q σ H3
def tAsg (te : TE) (g : TG) : TS := fun D σ H => te σ H fun x H1 => g x σ H1 D.nx
theorem ps_set {i : Nat} {x : Str} {e : Expr} {te : TE} {pos' : Pos} (hN : X.N.Nodup) (hi : X.N[i]? = some x) (hx : Loc X.env.scope x) (he : PE X e te) (hs : swapsWith e (some (.Name x pos')) pos.line X.env = pure false := by rfl) (hf : X.fn x = true ∨ X.env.scope.names.lookup x = some .local := by first | exact .inl rfl | exact .inr rfl | assumption) :
    PS X (.Assign [.Name x pos'] e pos) (tAsg te (gName i)) := by
  intro pins s σ H D I h
  refine wpAny_Assign_Name (thn (he pins s σ H _ I h) fun v s1 ⟨y, H1, I1, r1, q1⟩ => ?_) hs
  exact store_ok I1 hN hi hx r1 (fun s2 I2 => ⟨_, H1, I2, q1⟩) hf
def tPar (i j : Nat) (ta : TA) : TS := fun D σ H => ta σ H fun vs H1 => ∃ v w, vs = [v, w] ∧ D.nx ((σ.set i (some v)).set j (some w)) H1
theorem ps_par {i j : Nat} {x y : Str} {a b : Expr} {ta : TA} {px py pt : Pos} {kt k2 pt2} (hc : X.calm = true) (hN : X.N.Nodup) (hi : X.N[i]? = some x) (hj : X.N[j]? = some y) (hij : i ≠ j)
    (hx : X.env.scope.names.lookup x = some .local) (hy : X.env.scope.names.lookup y = some .local) (ha : PA X [a, b] ta)
    (hw : swappedStores [.Tuple [.Name x px, .Name y py] kt pt] (.Tuple [a, b] k2 pt2) X.env = pure (some [x, y]))
    (hs : swapsWithSole [.Tuple [.Name x px, .Name y py] kt pt] (.Tuple [a, b] k2 pt2) pos.line X.env = pure false := by rfl) :
    PS X (.Assign [.Tuple [.Name x px, .Name y py] kt pt] (.Tuple [a, b] k2 pt2) pos) (tPar i j ta) := by
  intro pins s σ H D I h
  rw [exec_Assign_arm]
  refine wpAny_bind (wpAny_standAt ?_)
  rw [hs]
  refine wpAny_bind (wpAny_pure ?_)
  rw [if_neg (by decide)]
  refine wpAny_bind (Tuple_ (thn (ha _ pins s σ H _ I h) fun us s1 ⟨vs, H1, I1, r1, q1⟩ => ?_))
  obtain ⟨v, w, e1, q1⟩ := q1
  subst e1
  obtain ⟨u1, u2, rfl, rv, rw'⟩ : ∃ u1 u2, us = [u1, u2] ∧ RelV v u1 ∧ RelV w u2 := by
    cases r1 with
    | cons p q =>
      cases q with
      | cons p' q' =>
        cases q'
        exact ⟨_, _, rfl, p, p'⟩
  refine wpAny_newObj_type ?_ (by show 2 ≤ sizeLine; decide)
  have I2 : Inv X pins σ H1 { s1 with heap := s1.heap.push { cls := .type "tuple", data := .seq [u1, u2].toArray } } := I1.kept (t' := s1.toks) fun b o e => Heap.get?_push_of_some _ e
  rw [hw]
  refine wpAny_bind (wpAny_pure ?_)
  show wpAny (model X.prog X.w) X.A (do rule "assign.swapped-stores"; let items ← unpackItems (.ref s1.heap.objs.size) 2 none; assignInOrder [fun v => bindName X.env y v, fun v => bindName X.env x v] items.reverse; pure Flow.next) _ _ _
  refine wpAny_bind (wpAny_rule (wpAny_bind (unpackItems_tuple (items := #[u1, u2]) (I.ok.hd hc) (IsTup.new s1.heap _) fun h' hx' => ?_)))
  have I3 := I2.kept (h' := h') (t' := s1.toks) fun b o e => hx' b o (Nat.ne_of_lt (Heap.lt_size e)) e
  show wpAny _ _ (assignInOrder [fun v => bindName X.env y v, fun v => bindName X.env x v] [u2, u1] >>= fun _ => pure Flow.next) _ _ _
  refine wpAny_bind (assignInOrder_cons (wpAny_bindName (store_ok I3 hN hj (.inl hy) rw' (fun s2 I4 => ?_) (.inr hy))))
  refine assignInOrder_cons (wpAny_bindName (store_ok I4 hN hi (.inl hx) rv (fun s3 I5 => assignInOrder_nil (wpAny_pure ?_)) (.inr hx)))
  rw [List.set_comm _ _ (Ne.symm hij)] at I5
  exact ⟨_, H1, I5, q1⟩
end
section
variable {X : Cx} {pos : Pos}
def tWhile (c : TT) (tb : TS) : TS := fun D σ H => ∃ W : Nat → St → Hp → Prop, (∃ m, W m σ H) ∧ ∀ m σ H, W m σ H →
  c σ H fun b H1 => if b = true then ∃ N : St → Hp → Prop, (∀ σ' H', N σ' H' → ∃ m', m' < m ∧ W m' σ' H') ∧ tb { D with nx := N, ct := N, bk := D.nx } σ H1 else D.nx σ H1
theorem ps_while {c : Expr} {body : List Stmt} {tc : TT} {tb : TS} (hp : PassesOwn (model X.prog X.w) X.A X.env X.xe) (hc : PT X c tc) (hb : PSs X body tb) : PS X (.While c body [] pos) (tWhile tc tb) := by
  intro pins s σ H D I h
  obtain ⟨W, ⟨m0, w0⟩, turn⟩ := h
  refine wpAny_While (codeAny_whileLoop (fun n s' => ∃ σ' H', Inv X pins σ' H' s' ∧ W n σ' H') ?_ m0 ⟨σ, H, I, w0⟩)
  rintro n s1 ⟨σ1, H1, I1, w1⟩
  refine wpAny_passesOwn hp (thn (hc pins s1 σ1 H1 _ I1 (turn n σ1 H1 w1)) fun b s2 ⟨H2, I2, q2⟩ => ?_)
  cases b with
  | true =>
    obtain ⟨N, hN, q2⟩ := q2
    rw [if_pos rfl]
    refine wpAny_passesOwn hp (thn (hb pins s2 σ1 H2 _ I2 q2) fun f s3 q3 => ?_)
    cases f with
    | next =>
      obtain ⟨σ3, H3, I3, n3⟩ := q3
      obtain ⟨m', hm, w3⟩ := hN σ3 H3 n3
      exact ⟨m', hm, σ3, H3, I3, w3⟩
    | cont =>
      obtain ⟨σ3, H3, I3, n3⟩ := q3
      obtain ⟨m', hm, w3⟩ := hN σ3 H3 n3
      exact ⟨m', hm, σ3, H3, I3, w3⟩
    | brk => exact q3
    | ret v => exact q3
  | false =>
    rw [if_neg Bool.false_ne_true]
    exact wpAny_execs_nil ⟨σ1, H2, I2, q2⟩
end
structure It where
  go : Nat → Hp → Prop
  yld : Nat → Hp → V → Hp → Prop
  stop : Nat → Hp → Prop
def FpOk (X : Cx) (pins : List (Addr × Obj)) (H : Hp) (b : Addr) : Prop :=
  H b = none ∧ b ≠ X.env.locals ∧ b ∉ X.fs ∧ (b ∈ X.ex ∨ X.s₀.heap.objs.size ≤ b) ∧ (∀ x c, X.env.cells.lookup x = some c → c ≠ b) ∧ ∀ p ∈ X.pn ++ pins, p.1 ≠ b
theorem Inv.fpOk {X : Cx} {pins : List (Addr × Obj)} {σ : St} {H H' : Hp} {s : Shared} {b : Addr} (I : Inv X pins σ H s) (hb : s.heap.objs.size ≤ b) (hn : H' b = none) : FpOk X pins H' b := by
  refine ⟨hn, Nat.ne_of_gt (Nat.lt_of_lt_of_le I.lt hb), I.nofs hb, .inr (Nat.le_trans I.sz hb), fun x c e z => ?_, fun p hp z => ?_⟩
  · obtain ⟨v, q⟩ := I.cell x c e
    exact absurd (Nat.lt_of_lt_of_le q.lt (by rw [z]; exact hb)) (Nat.lt_irrefl _)
  · exact absurd (Nat.lt_of_lt_of_le (Heap.lt_size (I.pin p hp).1) (by rw [z]; exact hb)) (Nat.lt_irrefl _)
structure Turn (P : Program) (w : World) (K : PySem.W.Frag) (tg : Expr) (J : It) (fp : List Addr) (it : Addr) (tn : Nat → Heap → Prop) : Prop where
  mem : it ∈ fp
  obj : ∀ i h, tn i h → ∀ b ∈ fp, ∃ o, h.get? b = some o ∧ ∀ v, o.data ≠ .cell v
  keep : ∀ i h h', tn i h → (∀ b ∈ fp, ∀ o, h.get? b = some o → h'.get? b = some o) → tn i h'
  item : ∀ (X : Cx), X.prog = P → X.w = w → X.K = K → X.calm = true → ∀ (i : Nat) (pins : List (Addr × Obj)) (s : Shared) (σ : St) (H : Hp) (E : Value → Shared → Prop), Inv X pins σ H s → (∀ b ∈ fp, FpOk X pins H b) → tn i s.heap → J.go i H →
    wpAny (model P w) X.A (pyNext (.ref it)) (fun r s1 => ∃ u, r = some u ∧
      wpAny (model P w) X.A (letOwnedTupleGo tg (.ref it) u) (fun _ s2 => ∃ x H', Inv X pins σ H' s2 ∧ RelV x u ∧ J.yld i H x H' ∧ tn (i + 1) s2.heap ∧ ∀ b ∈ fp, H' b = none) E s1) E s
  done : ∀ (X : Cx), X.prog = P → X.w = w → X.K = K → X.calm = true → ∀ (i : Nat) (pins : List (Addr × Obj)) (s : Shared) (σ : St) (H : Hp) (E : Value → Shared → Prop), Inv X pins σ H s → (∀ b ∈ fp, FpOk X pins H b) → tn i s.heap → J.stop i H →
    wpAny (model P w) X.A (pyNext (.ref it)) (fun r s1 => r = none ∧ Inv X pins σ H s1) E s
  self : ∀ (A : Around) (i : Nat) (s : Shared) (Q : Value → Shared → Prop) (E : Value → Shared → Prop), tn i s.heap → Q (.ref it) s → wpAny (model P w) A (pyIter (.ref it)) Q E s
abbrev TI := St → Hp → (It → Hp → Prop) → Prop
def PIE (X : Cx) (pins : List (Addr × Obj)) (σ : St) (tg : Expr) (R : It → Hp → Prop) (itv : Value) (s2 : Shared) : Prop :=
  ∃ (it : Addr) (fp : List Addr) (tn : Nat → Heap → Prop) (J : It) (H' : Hp), itv = .ref it ∧ Inv X pins σ H' s2 ∧ Turn X.prog X.w X.K tg J fp it tn ∧ tn 0 s2.heap ∧ (∀ b ∈ fp, FpOk X pins H' b) ∧ R J H'
def PI (X : Cx) (tg iter : Expr) (wi : TI) : Prop :=
  ∀ (pins : List (Addr × Obj)) (s : Shared) (σ : St) (H : Hp) (R : It → Hp → Prop), Inv X pins σ H s → wi σ H R →
    wpAny (model X.prog X.w) X.A (eval iter X.env) (fun v s1 => wpAny (model X.prog X.w) X.A (pyIter v) (PIE X pins σ tg R) X.xe s1) X.xe s
theorem go_of {M : Model} {A : Around} {E : Value → Shared → Prop} {s : Shared} {tg : Expr} {it : Addr} {u : Value} {o : Obj} {n : String} {vs : Array Value} {Q : Unit → Shared → Prop} (ho : s.heap.get? it = some o) (hc : o.cls = .type n) (hd : o.data = .fields vs)
    (hn : ["enumerate", "zip", "dict_itemiterator", "dict_reverseitemiterator", "odict_iterator", "itertools.zip_longest", "itertools.pairwise"].contains n = false) (hQ : Q () s) : wpAny M A (letOwnedTupleGo tg (.ref it) u) Q E s := by
  unfold letOwnedTupleGo
  cases tg <;> first
    | exact wpAny_pure hQ
    | (cases u <;> first
        | exact wpAny_pure hQ
        | (refine wpAny_bind (wpAny_load ho ?_)
           rw [hc, hd]
           show wpAny M A (if (["enumerate", "zip", "dict_itemiterator", "dict_reverseitemiterator", "odict_iterator", "itertools.zip_longest", "itertools.pairwise"].contains n && vs[0]? == some (rawInt _)) = true then _ else _) Q E s
           rw [if_neg (by intro h; rw [hn, Bool.false_and] at h; cases h)]
           exact wpAny_pure hQ))
def Itl (K : PySem.W.Frag) (a : Addr) : It :=
  ⟨fun i H => ∃ xs x, SqL K H a xs ∧ xs[i]? = some x, fun i H x H' => H' = H ∧ ∀ xs, SqL K H a xs → xs[i]? = some x, fun i H => ∃ xs, SqL K H a xs ∧ xs.length ≤ i⟩
def Itr (lo : Int) (n : Nat) : It := ⟨fun i _ => i < n, fun i H x H' => H' = H ∧ x = .int (lo + i), fun i _ => n ≤ i⟩
theorem turn_list {P : Program} {w : World} {K : PySem.W.Frag} {tg : Expr} (a it : Addr) : Turn P w K tg (Itl K a) [it] it (fun i h => h.IsListIter it a i) where
  mem := by simp
  obj := fun i h st b hb => by
    have e : b = it := by simpa using hb
    subst e
    obtain ⟨o, e, c, d⟩ := st
    exact ⟨o, e, fun v z => by rw [d] at z; cases z⟩
  keep := fun i h h' st k => st.at fun o e => k it (by simp) o e
  item := by
    intro X hP hw hK hc i pins s σ H E I hf st hg
    subst hP hw hK
    obtain ⟨xs, x, hq, hx⟩ := hg
    obtain ⟨its, rv, p, hz⟩ := I.list hq
    obtain ⟨u, hu, ru⟩ := rv.get hx
    obtain ⟨f0, f1, f2, f3, f4, f5⟩ := hf it (by simp)
    refine wpAny_pyNext_list_item st p.isList (x := u) (by simpa using hu) fun h' st' sb => ?_
    have I1 : Inv X pins σ H { s with heap := h' } := I.turned (t' := s.toks) (fun b o hb e => (sb.2 b hb).trans e) f0 f1 f3 f4 f5
    obtain ⟨o, e, c, d⟩ := id st'
    exact ⟨u, rfl, go_of (s := { s with heap := h' }) e c d (by decide) ⟨x, H, I1, ru, ⟨rfl, fun ys hy => by rw [I.list_inj hy hq]; exact hx⟩, st', fun b hb => (hf b hb).1⟩⟩
  done := by
    intro X hP hw hK hc i pins s σ H E I hf st hg
    subst hP hw hK
    obtain ⟨xs, hq, hx⟩ := hg
    obtain ⟨its, rv, p, hz⟩ := I.list hq
    obtain ⟨f0, f1, f2, f3, f4, f5⟩ := hf it (by simp)
    have hl := rv.length
    exact wpAny_pyNext_list_end (I.ok.hd hc) st p.isList (by simp; omega) fun h' eb => ⟨rfl, I.turned (t' := s.toks) (fun b o hb e => eb b o hb e) f0 f1 f3 f4 f5⟩
  self := fun _ _ _ _ _ st h => wpAny_pyIter_listiter st h
theorem turn_range {P : Program} {w : World} {K : PySem.W.Frag} {tg : Expr} (it : Addr) (lo : Int) (n : Nat) : Turn P w K tg (Itr lo n) [it] it (fun i h => IsRangeIter h it (lo + (i : Nat) * 1) ((n : Int) - (i : Nat)) 1) where
  mem := by simp
  obj := fun i h st b hb => by
    have e : b = it := by simpa using hb
    subst e
    exact ⟨_, st, fun v z => by
      have z' : Data.fields _ = Data.cell v := z
      cases z'⟩
  keep := fun i h h' st k => k it (by simp) _ st
  item := by
    intro X hP hw hK hc i pins s σ H E I hf st hg
    subst hP hw hK
    obtain ⟨f0, f1, f2, f3, f4, f5⟩ := hf it (by simp)
    have W := Walks.range (prog := X.prog) (w := X.w) (I.ok.hd hc) it lo 1 n
    refine W.item i s _ _ hg st fun v h' tk hv st' kk => ?_
    obtain ⟨t, rfl⟩ := hv
    have I1 : Inv X pins σ H { s with heap := h', toks := tk } := I.turned (fun b o hb e => kk b o (by simpa using hb) e) f0 f1 f3 f4 f5
    refine ⟨_, rfl, go_of (s := { s with heap := h', toks := tk }) (n := "range_iterator") st' rfl rfl (by decide) ⟨.int (lo + i), H, I1, ⟨t, ?_⟩, ⟨rfl, rfl⟩, st', fun b hb => (hf b hb).1⟩⟩
    rw [Int.mul_one]
  done := by
    intro X hP hw hK hc i pins s σ H E I hf st hg
    subst hP hw hK
    obtain ⟨f0, f1, f2, f3, f4, f5⟩ := hf it (by simp)
    exact wpAny_pyNext_range_end (I.ok.hd hc) st (by have : n ≤ i := hg; omega) fun h' eb => ⟨rfl, I.turned (t' := s.toks) (fun b o hb e => eb b o hb e) f0 f1 f3 f4 f5⟩
  self := fun _ _ _ _ _ st h => wpAny_pyIter_rangeiter st h
end L2
namespace L2
open PySem PySem.Spec PyProof.Rows
section
variable {X : Cx} {tg : Expr}
def iList (K : PySem.W.Frag) (tl : TE) : TI := fun σ H R => tl σ H fun x H1 => ∃ a, x = .ref a ∧ (∃ xs, SqL K H1 a xs) ∧ R (Itl K a) H1
theorem pi_list {l : Expr} {tl : TE} (hl : PE X l tl) : PI X tg l (iList X.K tl) := by
  intro pins s σ H R I h
  refine thn (hl pins s σ H _ I h) fun v s1 ⟨x, H1, I1, r1, q1⟩ => ?_
  obtain ⟨a, e, ⟨xs, hq⟩, q⟩ := q1
  subst e
  cases r1
  obtain ⟨its, rv, p, hz⟩ := I1.list hq
  refine wpAny_pyIter_list p.isList ?_
  refine ⟨s1.heap.objs.size, [s1.heap.objs.size], _, _, H1, rfl, I1.kept (t' := s1.toks) fun b o e => Heap.get?_push_of_some _ e, turn_list a _, ⟨_, Heap.get?_push_size _ rfl, rfl, rfl⟩, fun b hb => ?_, q⟩
  have e : b = s1.heap.objs.size := by simpa using hb
  subst e
  exact I1.fpOk (Nat.le_refl _) (I1.hok.fresh (Nat.le_refl _))
theorem range_it {pins : List (Addr × Obj)} {σ : St} {H : Hp} {s : Shared} {R : It → Hp → Prop} {E : Value → Shared → Prop} {lo hi : Int} {t u v : Tok} {tk : Nat} (I : Inv X pins σ H s) (h1 : -(2 ^ 62) ≤ lo) (h2 : lo < 2 ^ 62) (h3 : -(2 ^ 62) ≤ hi) (h4 : hi < 2 ^ 62)
    (q : R (Itr lo (hi - lo).toNat) H) : wpAny (model X.prog X.w) X.A (pyIter (.ref s.heap.objs.size)) (PIE X pins σ tg R) E { s with heap := s.heap.push { cls := .type "range", data := .fields #[.int lo t, .int hi u, .int 1 v] }, toks := tk } := by
  refine wpAny_pyIter_range (IsRange.new ..) (small_one h1 h2 h3 h4) ?_
  have I1 : Inv X pins σ H { s with heap := s.heap.push { cls := .type "range", data := .fields #[.int lo t, .int hi u, .int 1 v] }, toks := tk } := I.kept fun b o e => Heap.get?_push_of_some _ e
  refine ⟨(s.heap.push { cls := .type "range", data := .fields #[.int lo t, .int hi u, .int 1 v] }).objs.size, [(s.heap.push { cls := .type "range", data := .fields #[.int lo t, .int hi u, .int 1 v] }).objs.size], _, _, H, rfl,
    I1.kept (t' := tk) fun b o e => Heap.get?_push_of_some _ e, turn_range _ lo (hi - lo).toNat, ?_, fun b hb => ?_, q⟩
  · have e1 : lo + ((0 : Nat) : Int) * 1 = lo := by simp
    have e2 : (((hi - lo).toNat : Nat) : Int) - ((0 : Nat) : Int) = Builtin.Range.rangeSize lo hi 1 := by rw [rangeSize_one]; split <;> omega
    show IsRangeIter _ _ (lo + ((0 : Nat) : Int) * 1) ((((hi - lo).toNat : Nat) : Int) - ((0 : Nat) : Int)) 1
    rw [e1, e2]
    exact Heap.get?_push_size _ rfl
  · have e : b = (s.heap.push { cls := .type "range", data := .fields #[.int lo t, .int hi u, .int 1 v] }).objs.size := by simpa using hb
    subst e
    exact I1.fpOk (Nat.le_refl _) (I1.hok.fresh (Nat.le_refl _))
def iRng1 (ta : TA) : TI := fun σ H R => ta σ H fun vs H1 => ∃ j : Int, vs = [.int j] ∧ -(2 ^ 62) ≤ j ∧ j < 2 ^ 62 ∧ R (Itr 0 j.toNat) H1
theorem pi_range1 {a : Expr} {ta : TA} {p pos : Pos} (hg : Gl X "range") (hm : X.mg "range" = none) (ha : PA X [a] ta) (hs : starEach [a] X.env = [(false, eval a X.env)] := by rfl) : PI X tg (.Call (.Name "range" p) [a] [] pos) (iRng1 ta) := by
  intro pins s σ H R I h
  refine Call_ (ld_blt I hg hm boot_range (PyProof.Rows.callWith_type1 (thn (ha pos pins s σ H _ I h) fun us s1 ⟨vs, H1, I1, r1, q1⟩ => ?_) hs rfl))
  obtain ⟨j, e, q1, q2, q⟩ := q1
  subst e
  cases r1 with
  | cons r rr =>
    cases rr
    obtain ⟨t, rfl⟩ := r
    exact call_range_1 (range_it I1 (by omega) (by omega) q1 q2 (by simpa using q))
def tFor (wi : TI) (g : TG) (tb : TS) : TS := fun D σ H => wi σ H fun J H1 => ∃ W : Nat → Nat → St → Hp → Prop, (∃ m, W 0 m σ H1) ∧ ∀ i m σ H, W i m σ H →
  (J.stop i H ∧ D.nx σ H) ∨ (J.go i H ∧ ∃ N : St → Hp → Prop, (∀ σ' H', N σ' H' → ∃ m', m' < m ∧ W (i + 1) m' σ' H') ∧ ∀ x H', J.yld i H x H' → g x σ H' fun σ2 H2 => tb { D with nx := N, ct := N, bk := D.nx } σ2 H2)
def pinsAt (fp : List Addr) (h : Heap) : List (Addr × Obj) := fp.filterMap fun b => (h.get? b).map fun o => (b, o)
theorem mem_pinsAt {fp : List Addr} {h : Heap} {b : Addr} {o : Obj} (hb : b ∈ fp) (e : h.get? b = some o) : (b, o) ∈ pinsAt fp h := List.mem_filterMap.mpr ⟨b, hb, by rw [e]; rfl⟩
theorem of_pinsAt {fp : List Addr} {h : Heap} {p : Addr × Obj} (hp : p ∈ pinsAt fp h) : p.1 ∈ fp ∧ h.get? p.1 = some p.2 := by
  obtain ⟨b, hb, e⟩ := List.mem_filterMap.mp hp
  cases q : h.get? b with
  | none => rw [q] at e; cases e
  | some o =>
    rw [q] at e
    have e' : (b, o) = p := Option.some.inj e
    subst e'
    exact ⟨hb, q⟩
theorem Inv.pinned {pins : List (Addr × Obj)} {σ : St} {H : Hp} {s : Shared} {fp : List Addr} (I : Inv X pins σ H s) (hf : ∀ b ∈ fp, FpOk X pins H b) (ho : ∀ b ∈ fp, ∃ o, s.heap.get? b = some o ∧ ∀ v, o.data ≠ .cell v) : Inv X (pins ++ pinsAt fp s.heap) σ H s :=
  I.pins_of fun p hp => (List.mem_append.mp hp).elim (fun z => I.pin p (List.mem_append_right _ z)) fun z => by
    obtain ⟨hb, e⟩ := of_pinsAt z
    obtain ⟨f0, f1, f2, _⟩ := hf p.1 hb
    obtain ⟨o, e', d⟩ := ho p.1 hb
    rw [e] at e'; cases e'
    exact ⟨e, f0, f1, f2, d⟩
theorem Inv.unpinned {pins pl : List (Addr × Obj)} {σ : St} {H : Hp} {s : Shared} (I : Inv X (pins ++ pl) σ H s) : Inv X pins σ H s := I.pins_of fun p hp => I.pin p (List.mem_append_right _ (List.mem_append_left _ hp))
theorem ps_for {iter : Expr} {body : List Stmt} {wi : TI} {g : TG} {tb : TS} {pos : Pos} (hp : PassesOwn (model X.prog X.w) X.A X.env X.xe) (hc : X.calm = true) (hi : PI X tg iter wi) (hg : PG X tg g) (hb : PSs X body tb)
    (hs : ∀ x, foldedSetIterable iter X.env x = pure x := by intro _; rfl) : PS X (.For tg iter body [] pos) (tFor wi g tb) := by
  intro pins s σ H D I h
  refine wpAny_For (thn (hi pins s σ H _ I h) fun v s1 h1 => thn h1 fun itv s2 h2 => ?_) hs
  obtain ⟨it, fp, tn, J, H2, e, I2, T, st2, f2, W, ⟨m0, w0⟩, turn⟩ := h2
  subst e
  -- what stays true of the iterator's objects through the loop
  have stat : ∀ {H' : Hp}, (∀ b ∈ fp, H' b = none) → ∀ b ∈ fp, FpOk X pins H' b := fun hn b hb => ⟨hn b hb, (f2 b hb).2⟩
  refine codeAny_forLoop_any (fun n s' => ∃ i σ' H', Inv X pins σ' H' s' ∧ tn i s'.heap ∧ (∀ b ∈ fp, H' b = none) ∧ W i n σ' H') ?_ m0 ⟨0, σ, H2, I2, st2, fun b hb => (f2 b hb).1, w0⟩
  rintro n s3 ⟨i, σ3, H3, I3, st3, fr3, w3⟩
  rcases turn i n σ3 H3 w3 with ⟨stop, qn⟩ | ⟨go, N, hN, step⟩
  · refine wpAny_passesOwn hp (thn (T.done X rfl rfl rfl hc i pins s3 σ3 H3 X.xe I3 (stat fr3) st3 stop) fun r s4 ⟨hr, I4⟩ => ?_)
    subst hr
    exact wpAny_execs_nil ⟨σ3, H3, I4, qn⟩
  · refine wpAny_passesOwn hp (thn (T.item X rfl rfl rfl hc i pins s3 σ3 H3 X.xe I3 (stat fr3) st3 go) fun r s4 ⟨u, hr, h4⟩ => ?_)
    subst hr
    refine wpAny_passesOwn hp (thn h4 fun _ s5 ⟨x, H5, I5, r5, y5, st5, fr5⟩ => ?_)
    have I5' := I5.pinned (stat fr5) (T.obj _ _ st5)
    refine wpAny_passesOwn hp (thn (hg _ s5 σ3 H5 x u _ I5' r5 (step x H5 y5)) fun _ s6 ⟨σ6, H6, I6, q6⟩ => ?_)
    refine wpAny_passesOwn hp (thn (hb _ s6 σ6 H6 _ I6 q6) fun f s7 q7 => ?_)
    have again : ∀ {σ7 : St} {H7 : Hp}, Inv X (pins ++ pinsAt fp s5.heap) σ7 H7 s7 → N σ7 H7 → ∃ m, m < n ∧ ∃ i σ' H', Inv X pins σ' H' s7 ∧ tn i s7.heap ∧ (∀ b ∈ fp, H' b = none) ∧ W i m σ' H' := fun {σ7 H7} I7 n7 => by
      obtain ⟨m', hm, w7⟩ := hN σ7 H7 n7
      refine ⟨m', hm, i + 1, σ7, H7, I7.unpinned, T.keep _ _ _ st5 fun b hb o e => (I7.pin (b, o) (List.mem_append_right _ (List.mem_append_right _ (mem_pinsAt hb e)))).1, fun b hb => ?_, w7⟩
      obtain ⟨o, e, d⟩ := T.obj _ _ st5 b hb
      exact (I7.pin (b, o) (List.mem_append_right _ (List.mem_append_right _ (mem_pinsAt hb e)))).2.1
    cases f with
    | next => obtain ⟨σ7, H7, I7, n7⟩ := q7; exact again I7 n7
    | cont => obtain ⟨σ7, H7, I7, n7⟩ := q7; exact again I7 n7
    | brk => obtain ⟨σ7, H7, I7, q7⟩ := q7; exact ⟨σ7, H7, I7.unpinned, q7⟩
    | ret v => obtain ⟨x7, σ7, H7, I7, r7, q7⟩ := q7; exact ⟨x7, σ7, H7, I7.unpinned, r7, q7⟩
end
theorem for_list {K : PySem.W.Frag} {a : Addr} {xs : List V} {g : TG} {tb : TS} {D : Ends} {σ : St} {H : Hp} (Pv : Nat → St → Hp → Prop) (h0 : Pv 0 σ H) (hl : ∀ i σ H, i ≤ xs.length → Pv i σ H → SqL K H a xs)
    (hs : ∀ i x σ H, xs[i]? = some x → Pv i σ H → g x σ H fun σ2 H2 => tb { D with nx := Pv (i + 1), ct := Pv (i + 1), bk := D.nx } σ2 H2) (hd : ∀ σ H, Pv xs.length σ H → D.nx σ H) :
    ∃ W : Nat → Nat → St → Hp → Prop, (∃ m, W 0 m σ H) ∧ ∀ i m σ H, W i m σ H →
      ((Itl K a).stop i H ∧ D.nx σ H) ∨ ((Itl K a).go i H ∧ ∃ N : St → Hp → Prop, (∀ σ' H', N σ' H' → ∃ m', m' < m ∧ W (i + 1) m' σ' H') ∧ ∀ x H', (Itl K a).yld i H x H' → g x σ H' fun σ2 H2 => tb { D with nx := N, ct := N, bk := D.nx } σ2 H2) := by
  refine ⟨fun i m σ H => m = xs.length - i ∧ i ≤ xs.length ∧ Pv i σ H, ⟨xs.length, by simp, Nat.zero_le _, h0⟩, ?_⟩
  rintro i m σ H ⟨rfl, hi, p⟩
  have q := hl i σ H hi p
  by_cases hlt : i < xs.length
  · refine .inr ⟨⟨xs, xs[i], q, by simp [hlt]⟩, Pv (i + 1), fun σ' H' p' => ⟨xs.length - (i + 1), by omega, rfl, hlt, p'⟩, fun x H' y => ?_⟩
    obtain ⟨e, y⟩ := y
    subst e
    exact hs i x σ _ (y xs q) p
  · have e : i = xs.length := by omega
    subst e
    exact .inl ⟨⟨xs, q, Nat.le_refl _⟩, hd σ H p⟩
theorem for_range {lo : Int} {n : Nat} {g : TG} {tb : TS} {D : Ends} {σ : St} {H : Hp} (Pv : Nat → St → Hp → Prop) (h0 : Pv 0 σ H)
    (hs : ∀ i σ H, i < n → Pv i σ H → g (.int (lo + i)) σ H fun σ2 H2 => tb { D with nx := Pv (i + 1), ct := Pv (i + 1), bk := D.nx } σ2 H2) (hd : ∀ σ H, Pv n σ H → D.nx σ H) :
    ∃ W : Nat → Nat → St → Hp → Prop, (∃ m, W 0 m σ H) ∧ ∀ i m σ H, W i m σ H →
      ((Itr lo n).stop i H ∧ D.nx σ H) ∨ ((Itr lo n).go i H ∧ ∃ N : St → Hp → Prop, (∀ σ' H', N σ' H' → ∃ m', m' < m ∧ W (i + 1) m' σ' H') ∧ ∀ x H', (Itr lo n).yld i H x H' → g x σ H' fun σ2 H2 => tb { D with nx := N, ct := N, bk := D.nx } σ2 H2) := by
  refine ⟨fun i m σ H => m = n - i ∧ i ≤ n ∧ Pv i σ H, ⟨n, by simp, Nat.zero_le _, h0⟩, ?_⟩
  rintro i m σ H ⟨rfl, hi, p⟩
  by_cases hlt : i < n
  · refine .inr ⟨hlt, Pv (i + 1), fun σ' H' p' => ⟨n - (i + 1), by omega, rfl, hlt, p'⟩, fun x H' y => ?_⟩
    obtain ⟨e, y⟩ := y
    subst e y
    exact hs i σ _ hlt p
  · have e : i = n := by omega
    subst e
    exact .inl ⟨Nat.le_refl _, hd σ H p⟩
theorem while_by {c : TT} {tb : TS} {D : Ends} {σ : St} {H : Hp} (Pv : St → Hp → Prop) (μ : St → Hp → Nat) (h0 : Pv σ H)
    (hs : ∀ σ H, Pv σ H → c σ H fun b H1 => if b = true then tb { D with nx := fun σ' H' => Pv σ' H' ∧ μ σ' H' < μ σ H, ct := fun σ' H' => Pv σ' H' ∧ μ σ' H' < μ σ H, bk := D.nx } σ H1 else D.nx σ H1)
    (mono : ∀ σ H Q Q', (∀ b H1, Q b H1 → Q' b H1) → c σ H Q → c σ H Q') : tWhile c tb D σ H := by
  refine ⟨fun m σ H => m = μ σ H ∧ Pv σ H, ⟨_, rfl, h0⟩, ?_⟩
  rintro m σ H ⟨rfl, p⟩
  refine mono σ H _ _ (fun b H1 q => ?_) (hs σ H p)
  cases b with
  | true => exact ⟨_, fun σ' H' ⟨p', l⟩ => ⟨_, l, rfl, p'⟩, q⟩
  | false => exact q
end L2
namespace L2
open PySem PySem.Spec PyProof.Rows
abbrev R2 := V → V → Hp → VK → Prop
def OpR (X : Cx) (f : Value → Value → Sem Value) (r : R2) : Prop :=
  ∀ (pins : List (Addr × Obj)) (s : Shared) (σ : St) (H : Hp) (x y : V) (v u : Value) (Q : VK), Inv X pins σ H s → RelV x v → RelV y u → r x y H Q →
    wpAny (model X.prog X.w) X.A (f v u) (EP X pins σ Q) X.xe s
def UnR (X : Cx) (f : Value → Sem Value) (r : V → Hp → VK → Prop) : Prop :=
  ∀ (pins : List (Addr × Obj)) (s : Shared) (σ : St) (H : Hp) (x : V) (v : Value) (Q : VK), Inv X pins σ H s → RelV x v → r x H Q →
    wpAny (model X.prog X.w) X.A (f v) (EP X pins σ Q) X.xe s
def CallR (X : Cx) (f : Value) (r : List V → Hp → VK → Prop) : Prop :=
  ∀ (pins : List (Addr × Obj)) (s : Shared) (σ : St) (H : Hp) (xs : List V) (us : List Value) (Q : VK), Inv X pins σ H s → Vals xs us → r xs H Q →
    wpAny (model X.prog X.w) X.A (call f us) (EP X pins σ Q) X.xe s
def tOp (r : R2) (ta tb : TE) : TE := fun σ H Q => ta σ H fun x H1 => tb σ H1 fun y H2 => r x y H2 Q
def tUn (r : V → Hp → VK → Prop) (ta : TE) : TE := fun σ H Q => ta σ H fun x H1 => r x H1 Q
def rI (C : Int → Int → Prop) (g : Int → Int → V) : R2 := fun x y H Q => ∃ i j, x = .int i ∧ y = .int j ∧ C i j ∧ Q (g i j) H
def rI0 (g : Int → Int → V) : R2 := fun x y H Q => ∃ i j, x = .int i ∧ y = .int j ∧ Q (g i j) H
def rU (g : Int → V) : V → Hp → VK → Prop := fun x H Q => ∃ i, x = .int i ∧ Q (g i) H
section
variable {X : Cx} {a b c : Expr} {ta tb tc : TE} {pos : Pos}
theorem binT (ha : PE X a ta) (hb : PE X b tb) {pins : List (Addr × Obj)} {s : Shared} {σ : St} {H : Hp} {R : V → V → Hp → Prop} (I : Inv X pins σ H s)
    (h : ta σ H fun x H1 => tb σ H1 fun y H2 => R x y H2) {Q : Value → Shared → Prop} {f : Value → Value → Sem Value}
    (hf : ∀ v u s2 x y H2, Inv X pins σ H2 s2 → RelV x v → RelV y u → R x y H2 → wpAny (model X.prog X.w) X.A (f v u) Q X.xe s2) :
    wpAny (model X.prog X.w) X.A (eval a X.env) (fun v s₁ => wpAny (model X.prog X.w) X.A (eval b X.env) (fun u s₂ => wpAny (model X.prog X.w) X.A (f v u) Q X.xe s₂) X.xe s₁) X.xe s := by
  refine thn (ha pins s σ H _ I h) fun v s1 ⟨x, H1, I1, r1, q1⟩ => ?_
  refine thn (hb pins s1 σ H1 _ I1 q1) fun u s2 ⟨y, H2, I2, r2, q2⟩ => ?_
  exact hf v u s2 x y H2 I2 r1 r2 q2
theorem pe_op {op : Operator} {r : R2} (ho : OpR X (binaryOp op) r) (ha : PE X a ta) (hb : PE X b tb) : PE X (.BinOp a op b pos) (tOp r ta tb) := by
  intro pins s σ H Q I h
  exact wpAny_BinOp (binT ha hb I h fun v u s2 x y H2 I2 rx ry q => ho pins s2 σ H2 x y v u Q I2 rx ry q)
theorem pe_un {op : UnaryOp} {r : V → Hp → VK → Prop} (ho : UnR X (unaryOp op) r) (ha : PE X a ta) : PE X (.UnaryOp op a pos) (tUn r ta) := by
  intro pins s σ H Q I h
  exact UnaryOp_ (thn (ha pins s σ H _ I h) fun v s1 ⟨x, H1, I1, r1, q1⟩ => ho pins s1 σ H1 x v Q I1 r1 q1)
theorem opI {f : Value → Value → Sem Value} {C : Int → Int → Prop} {g : Int → Int → Int}
    (rule : ∀ (i j : Int) (t u : Tok) (s : Shared) (Q : Value → Shared → Prop) (E : Value → Shared → Prop), C i j → Q (.int (g i j) s.toks) { s with toks := s.toks + 1 } → wpAny (model X.prog X.w) X.A (f (.int i t) (.int j u)) Q E s) :
    OpR X f (rI C fun i j => .int (g i j)) := by
  intro pins s σ H x y v u Q I rx ry h
  obtain ⟨i, j, rfl, rfl, hc, q⟩ := h
  obtain ⟨t, rfl⟩ := rx
  obtain ⟨t', rfl⟩ := ry
  exact rule i j t t' s _ _ hc ⟨.int (g i j), H, I.tok _, ⟨_, rfl⟩, q⟩
theorem opI0 {f : Value → Value → Sem Value} {g : Int → Int → Int}
    (rule : ∀ (i j : Int) (t u : Tok) (s : Shared) (Q : Value → Shared → Prop) (E : Value → Shared → Prop), Q (.int (g i j) s.toks) { s with toks := s.toks + 1 } → wpAny (model X.prog X.w) X.A (f (.int i t) (.int j u)) Q E s) :
    OpR X f (rI0 fun i j => .int (g i j)) := by
  intro pins s σ H x y v u Q I rx ry h
  obtain ⟨i, j, rfl, rfl, q⟩ := h
  obtain ⟨t, rfl⟩ := rx
  obtain ⟨t', rfl⟩ := ry
  exact rule i j t t' s _ _ ⟨.int (g i j), H, I.tok _, ⟨_, rfl⟩, q⟩
theorem opB0 {f : Value → Value → Sem Value} {g : Int → Int → Bool}
    (rule : ∀ (i j : Int) (t u : Tok) (s : Shared) (Q : Value → Shared → Prop) (E : Value → Shared → Prop), Q (.bool (g i j)) s → wpAny (model X.prog X.w) X.A (f (.int i t) (.int j u)) Q E s) :
    OpR X f (rI0 fun i j => .bl (g i j)) := by
  intro pins s σ H x y v u Q I rx ry h
  obtain ⟨i, j, rfl, rfl, q⟩ := h
  obtain ⟨t, rfl⟩ := rx
  obtain ⟨t', rfl⟩ := ry
  exact rule i j t t' s _ _ ⟨.bl (g i j), H, I, rfl, q⟩
def CDiv (i j : Int) : Prop := 0 < j ∧ j < 1073741824
def CMul (i j : Int) : Prop := (-(2 ^ 64) < i ∧ i < 2 ^ 64) ∨ (-(2 ^ 64) < j ∧ j < 2 ^ 64)
theorem CMul.ok {i j : Int} (h : CMul i j) : IntMulOk i j := by
  rcases h with ⟨h1, h2⟩ | ⟨h1, h2⟩
  · exact .of_left (intBits_le_64 h1 h2)
  · exact .of_right (intBits_le_64 h1 h2)
theorem op_add : OpR X (binaryOp .Add) (rI0 fun i j => .int (i + j)) := opI0 fun _ _ _ _ _ _ _ q => add_int q
theorem op_sub : OpR X (binaryOp .Sub) (rI0 fun i j => .int (i - j)) := opI0 fun _ _ _ _ _ _ _ q => sub_int q
theorem op_mul : OpR X (binaryOp .Mult) (rI CMul fun i j => .int (i * j)) := opI fun _ _ _ _ _ _ _ hc q => mul_int q hc.ok
theorem op_fdiv : OpR X (binaryOp .FloorDiv) (rI CDiv fun i j => .int (i / j)) := opI fun i j _ _ _ _ _ hc q => by
  have h1 : (0 : Int) < j := hc.1
  have h2 : j < 1073741824 := hc.2
  exact floordiv_int (by omega) (by rw [Int.fdiv_eq_ediv_of_nonneg i (by omega)]; exact q) (.inl (PyProof.noPylong_small (by omega)))
theorem op_mod : OpR X (binaryOp .Mod) (rI (fun _ j => 0 < j) fun i j => .int (i % j)) := opI fun i j _ _ _ _ _ hc q => by
  have h1 : (0 : Int) < j := hc
  exact mod_int' (by omega) (by rw [Int.fmod_eq_emod_of_nonneg i (by omega)]; exact q)
theorem op_modN : OpR X (binaryOp .Mod) (rI (fun _ j => j ≠ 0) fun i j => .int (i.fmod j)) := opI fun _ _ _ _ _ _ _ hc q => mod_int' hc q
theorem unI {f : Value → Sem Value} {g : Int → Int}
    (rule : ∀ (i : Int) (t : Tok) (s : Shared) (Q : Value → Shared → Prop) (E : Value → Shared → Prop), Q (.int (g i) s.toks) { s with toks := s.toks + 1 } → wpAny (model X.prog X.w) X.A (f (.int i t)) Q E s) :
    UnR X f (rU fun i => .int (g i)) := by
  intro pins s σ H x v Q I rx h
  obtain ⟨i, rfl, q⟩ := h
  obtain ⟨t, rfl⟩ := rx
  exact rule i t s _ _ ⟨.int (g i), H, I.tok _, ⟨_, rfl⟩, q⟩
theorem un_neg : UnR X (unaryOp .USub) (rU fun i => .int (-i)) := unI fun _ _ _ _ _ q => neg_int q
end
def scal : V → V → Bool
  | .non, .non => true | .non, .int _ => true | .int _, .non => true | .non, .bl _ => true | .bl _, .non => true | .non, .str _ => true | .str _, .non => true
  | .int _, .int _ => true | .bl _, .bl _ => true | .str _, .str _ => true | .byt _, .byt _ => true
  | .int _, .str _ => true | .str _, .int _ => true | .bl _, .str _ => true | .str _, .bl _ => true
  | _, _ => false
def rEq : R2 := fun x y H Q => scal x y = true ∧ Q (.bl (decide (x = y))) H
def rNe : R2 := fun x y H Q => scal x y = true ∧ Q (.bl (!decide (x = y))) H
theorem dec_int {i j : Int} : decide (V.int i = V.int j) = (i == j) := by
  rw [Bool.eq_iff_iff]
  simp
theorem dec_bl {i j : Bool} : decide (V.bl i = V.bl j) = (i == j) := by
  rw [Bool.eq_iff_iff]
  simp
theorem dec_str {i j : Str} : decide (V.str i = V.str j) = (i == j) := by
  rw [Bool.eq_iff_iff]
  simp
theorem dec_byt {i j : Array UInt8} : decide (V.byt i = V.byt j) = (i.toList == j.toList) := by
  rw [Bool.eq_iff_iff]
  cases i
  cases j
  simp
section
variable {X : Cx} {a b c : Expr} {ta tb tc : TE} {pos : Pos}
theorem fin_bl {pins : List (Addr × Obj)} {σ : St} {H : Hp} {s : Shared} {Q : VK} {k k' : Bool} (I : Inv X pins σ H s) (q : Q (.bl k) H) (e : k = k') : EP X pins σ Q (.bool k') s := by
  subst e
  exact ⟨.bl k, H, I, rfl, q⟩
theorem op_eq : OpR X (compareOp .Eq) rEq := by
  intro pins s σ H x y v u Q I rx ry h
  obtain ⟨hs, q⟩ := h
  cases x with
  | non =>
    cases rx
    cases y with
    | non => cases ry; exact PySem.EqNone.eq_none_none (fin_bl I q (by simp))
    | bl j => cases ry; exact PySem.EqNone.eq_none_bool (fin_bl I q (by simp))
    | int j => obtain ⟨t', rfl⟩ := ry; exact PySem.EqNone.eq_none_int (fin_bl I q (by simp))
    | str j => obtain ⟨t', rfl⟩ := ry; exact PySem.EqNone.eq_none_str (fin_bl I q (by simp))
    | _ => exact absurd (show false = true from hs) Bool.false_ne_true
  | bl i =>
    cases rx
    cases y with
    | non => cases ry; exact PySem.EqNone.eq_bool_none (fin_bl I q (by simp))
    | bl j => cases ry; exact eq_bool (fin_bl I q dec_bl)
    | str j => obtain ⟨t', rfl⟩ := ry; exact PySem.EqMixed.eq_bool_str (fin_bl I q (by simp))
    | _ => exact absurd (show false = true from hs) Bool.false_ne_true
  | int i =>
    obtain ⟨t, rfl⟩ := rx
    cases y with
    | non => cases ry; exact PySem.EqNone.eq_int_none (fin_bl I q (by simp))
    | int j => obtain ⟨t', rfl⟩ := ry; exact eq_int (fin_bl I q dec_int)
    | str j => obtain ⟨t', rfl⟩ := ry; exact PySem.EqMixed.eq_int_str (fin_bl I q (by simp))
    | _ => exact absurd (show false = true from hs) Bool.false_ne_true
  | str i =>
    obtain ⟨t, rfl⟩ := rx
    cases y with
    | non => cases ry; exact PySem.EqNone.eq_str_none (fin_bl I q (by simp))
    | bl j => cases ry; exact PySem.EqMixed.eq_str_bool (fin_bl I q (by simp))
    | int j => obtain ⟨t', rfl⟩ := ry; exact PySem.EqMixed.eq_str_int (fin_bl I q (by simp))
    | str j => obtain ⟨t', rfl⟩ := ry; exact eq_str (fin_bl I q dec_str)
    | _ => exact absurd (show false = true from hs) Bool.false_ne_true
  | byt i =>
    obtain ⟨t, rfl⟩ := rx
    cases y with
    | byt j => obtain ⟨t', rfl⟩ := ry; exact PySem.W.eq_bytes (fin_bl I q dec_byt)
    | _ => exact absurd (show false = true from hs) Bool.false_ne_true
  | _ => cases y <;> exact absurd (show false = true from hs) Bool.false_ne_true
theorem op_ne : OpR X (compareOp .NotEq) rNe := by
  intro pins s σ H x y v u Q I rx ry h
  obtain ⟨hs, q⟩ := h
  cases x with
  | non =>
    cases rx
    cases y with
    | non => cases ry; exact PySem.EqNone.ne_none_none (fin_bl I q (by simp))
    | bl j => cases ry; exact PySem.EqNone.ne_none_bool (fin_bl I q (by simp))
    | int j => obtain ⟨t', rfl⟩ := ry; exact PySem.EqNone.ne_none_int (fin_bl I q (by simp))
    | str j => obtain ⟨t', rfl⟩ := ry; exact PySem.EqNone.ne_none_str (fin_bl I q (by simp))
    | _ => exact absurd (show false = true from hs) Bool.false_ne_true
  | bl i =>
    cases rx
    cases y with
    | non => cases ry; exact PySem.EqNone.ne_bool_none (fin_bl I q (by simp))
    | bl j => cases ry; exact ne_bool (fin_bl I q (congrArg not dec_bl))
    | str j => obtain ⟨t', rfl⟩ := ry; exact PySem.EqMixed.ne_bool_str (fin_bl I q (by simp))
    | _ => exact absurd (show false = true from hs) Bool.false_ne_true
  | int i =>
    obtain ⟨t, rfl⟩ := rx
    cases y with
    | non => cases ry; exact PySem.EqNone.ne_int_none (fin_bl I q (by simp))
    | int j => obtain ⟨t', rfl⟩ := ry; exact ne_int (fin_bl I q (congrArg not dec_int))
    | str j => obtain ⟨t', rfl⟩ := ry; exact PySem.EqMixed.ne_int_str (fin_bl I q (by simp))
    | _ => exact absurd (show false = true from hs) Bool.false_ne_true
  | str i =>
    obtain ⟨t, rfl⟩ := rx
    cases y with
    | non => cases ry; exact PySem.EqNone.ne_str_none (fin_bl I q (by simp))
    | bl j => cases ry; exact PySem.EqMixed.ne_str_bool (fin_bl I q (by simp))
    | int j => obtain ⟨t', rfl⟩ := ry; exact PySem.EqMixed.ne_str_int (fin_bl I q (by simp))
    | str j => obtain ⟨t', rfl⟩ := ry; exact ne_str (fin_bl I q (congrArg not dec_str))
    | _ => exact absurd (show false = true from hs) Bool.false_ne_true
  | byt i =>
    obtain ⟨t, rfl⟩ := rx
    cases y with
    | byt j => obtain ⟨t', rfl⟩ := ry; exact PySem.W.ne_bytes (fin_bl I q (congrArg not dec_byt))
    | _ => exact absurd (show false = true from hs) Bool.false_ne_true
  | _ => cases y <;> exact absurd (show false = true from hs) Bool.false_ne_true
theorem op_lt : OpR X (compareOp .Lt) (rI0 fun i j => .bl (decide (i < j))) := opB0 fun _ _ _ _ _ _ _ q => lt_int q
theorem op_le : OpR X (compareOp .LtE) (rI0 fun i j => .bl (decide (i ≤ j))) := opB0 fun _ _ _ _ _ _ _ q => le_int q
theorem op_gt : OpR X (compareOp .Gt) (rI0 fun i j => .bl (decide (j < i))) := opB0 fun _ _ _ _ _ _ _ q => gt_int q
theorem OpR.or {f : Value → Value → Sem Value} {r r' : R2} (h : OpR X f r) (h' : OpR X f r') : OpR X f (fun x y H Q => r x y H Q ∨ r' x y H Q) := by
  intro pins s σ H x y v u Q I rx ry q
  rcases q with q | q
  · exact h pins s σ H x y v u Q I rx ry q
  · exact h' pins s σ H x y v u Q I rx ry q
theorem nomark (b : Expr) {op : CmpOp} (h : op ≠ .In := by decide) (h2 : op ≠ .NotIn := by decide) : behindInMarks op b = false := by
  have e1 : (op == CmpOp.In) = false := by cases op <;> first | rfl | exact absurd rfl h
  have e2 : (op == CmpOp.NotIn) = false := by cases op <;> first | rfl | exact absurd rfl h2
  cases b <;> simp [behindInMarks, e1, e2]
theorem pe_cmpR {op : CmpOp} {r : R2} (ho : OpR X (compareOp op) r) (ha : PE X a ta) (hb : PE X b tb) (hm : behindInMarks op b = false) : PE X (.Compare a [op] [b] pos) (tOp r ta tb) := by
  intro pins s σ H Q I h
  exact wpAny_Compare1 (binT ha hb I h fun v u s2 x y H2 I2 rx ry q => ho pins s2 σ H2 x y v u Q I2 rx ry q) hm
def tTest (t : TE) : TT := fun σ H Q => t σ H fun x H' => ∃ k, x = .bl k ∧ Q k H'
theorem pt_cmpR {op : CmpOp} {r : R2} (ho : OpR X (compareOp op) r) (ha : PE X a ta) (hb : PE X b tb) (hm : behindInMarks op b = false) : PT X (.Compare a [op] [b] pos) (tTest (tOp r ta tb)) := by
  intro pins s σ H Q I h
  refine wpAny_isTrue_Compare1 (thn (ha pins s σ H _ I h) fun v s1 ⟨x, H1, I1, r1, q1⟩ => thn (hb pins s1 σ H1 _ I1 q1) fun u s2 ⟨y, H2, I2, r2, q2⟩ =>
    thn (ho pins s2 σ H2 x y v u _ I2 r1 r2 q2) fun c s3 ⟨z, H3, I3, r3, k, e, q3⟩ => ?_) hm
  subst e
  cases r3
  exact wpAny_truthy_bool ⟨H3, I3, q3⟩
theorem line63 : (sizeLine : Nat) < 2 ^ 63 := by rw [sizeLine_eq]; decide
theorem vals1 {x : V} {us : List Value} (r : Vals [x] us) : ∃ u, us = [u] ∧ RelV x u := by
  cases r with
  | cons r1 r2 => cases r2; exact ⟨_, rfl, r1⟩
theorem vals2 {x y : V} {us : List Value} (r : Vals [x, y] us) : ∃ u w', us = [u, w'] ∧ RelV x u ∧ RelV y w' := by
  cases r with
  | cons r1 r2 =>
    cases r2 with
    | cons r3 r4 => cases r4; exact ⟨_, _, rfl, r1, r3⟩
theorem call_abs : CallR X (.builtin "abs") (fun xs H Q => ∃ i, xs = [.int i] ∧ Q (.int (if i < 0 then -i else i)) H) := by
  intro pins s σ H xs us Q I r h
  obtain ⟨i, rfl, q⟩ := h
  obtain ⟨u, rfl, t, rfl⟩ := vals1 r
  exact call_abs_int fun u tk => ⟨.int (if i < 0 then -i else i), H, I.tok _, ⟨_, rfl⟩, q⟩
end
end L2
namespace L2
open PySem PySem.Spec PyProof.Rows
section
variable {prog : Program} {w : World} {A : Around} {E : Value → Shared → Prop} {s : Shared} {K : PySem.W.Frag} {x dx C f : Addr} {mA : Str → Option Value} {name : Str} {v : Value}
end
theorem RelO.some_of {v : V} {o : Option Value} (r : RelO (some v) o) : ∃ u, o = some u ∧ RelV v u := by
  cases o with
  | none => exact (show False from r).elim
  | some u => exact ⟨u, rfl, r⟩
section
variable {P : Program} {w : World} {H H' : Hp} {h h' : Heap} {a C dx : Addr} {fs fs' : List (Str × V)}
end
structure Cls (K : PySem.W.Frag) (C : Addr) : Prop where
  pg : PySem.W.plainGet K C Str.empty = true
  hd : PySem.W.hasDictIn K C = true
  po : PySem.W.plainOver K C = true
  sa : PySem.W.findIn K (.ref C) "__setattr__" = some (some (.builtin "object.__setattr__"))
theorem Cls.get {K : PySem.W.Frag} {C : Addr} (c : Cls K C) (f : Str) : PySem.W.plainGet K C f = true := c.pg
section
variable {X : Cx} {pins : List (Addr × Obj)} {σ : St} {H : Hp} {s : Shared} {a C dx : Addr} {fs : List (Str × V)} {f : Str} {v : V} {A : Around} {E : Value → Shared → Prop}
theorem Inv.made (I : Inv X pins σ H s) : Inv X pins σ (upd (upd H s.heap.objs.size (.own (s.heap.objs.size + 1))) (s.heap.objs.size + 1) (.ins C s.heap.objs.size []))
    { s with heap := (s.heap.push PySem.W.emptyDict).push (PySem.W.instObj C s.heap.objs.size) } := by
  have e1 : (s.heap.push PySem.W.emptyDict).get? s.heap.objs.size = some PySem.W.emptyDict := Heap.get?_push_size s.heap rfl
  have e2 : ((s.heap.push PySem.W.emptyDict).push (PySem.W.instObj C s.heap.objs.size)).get? (s.heap.objs.size + 1) = some (PySem.W.instObj C s.heap.objs.size) := by
    have := Heap.get?_push_size (s.heap.push PySem.W.emptyDict) (o := PySem.W.instObj C s.heap.objs.size) rfl
    rwa [Heap.size_push] at this
  have e3 : (s.heap.push PySem.W.emptyDict).Ns s.heap.objs.size (fun _ => none) := ⟨PySem.W.emptyDict, #[], _, e1, rfl, (fun e he => absurd he (by simp)), fun _ => rfl⟩
  have I1 := I.laid (a := s.heap.objs.size) (o := .own (s.heap.objs.size + 1)) (h' := s.heap.push PySem.W.emptyDict) (t' := s.toks) (fun b u q => Heap.get?_push_of_some _ q) (Nat.le_refl _) ⟨_, e1⟩
  refine I1.laid (a := s.heap.objs.size + 1) (o := .ins C s.heap.objs.size []) (t' := s.toks) (fun b u q => Heap.get?_push_of_some _ q) (Nat.le_of_eq (Heap.size_push _ _)) ?_
  have ne : s.heap.objs.size ≠ s.heap.objs.size + 1 := Nat.ne_of_lt (Nat.lt_succ_self _)
  refine ⟨by rw [upd_ne ne, upd_same], Nat.zero_le _, ne, e2, fun _ => none, (Heap.Ns1.of_empty e3).at fun o q => Heap.get?_push_of_some _ q, fun _ => True.intro, fun y hy => absurd rfl hy⟩
end
section
variable {X : Cx} {o e value : Expr} {f : Str} {pos pos' tpos : Pos} {ta tv : TE}
end
section
variable {X : Cx} {pins : List (Addr × Obj)} {σ : St} {H : Hp} {s : Shared} {A : Around} {E : Value → Shared → Prop} {Q : Value → Shared → Prop} {c : Value} {b : Bool}
end
end L2
namespace L2
open PySem PySem.Spec PyProof.Rows
structure Room (k : Nat) (A : Around) : Prop where
  hd : A.handled = none
  dp : A.depth + 3 * k + 5 < recursionLimit
  un : A.units + 16 * k + 200 < cLine
theorem Room.mono {j k : Nat} {A : Around} (r : Room k A) (h : j ≤ k) : Room j A := ⟨r.hd, by have := r.dp; omega, by have := r.un; omega⟩
theorem Room.deeper {k : Nat} {A : Around} (r : Room (k + 1) A) (env : Env) : Room k (A.deeper env) :=
  ⟨r.hd, by have := r.dp; show A.depth + 1 + 3 * k + 5 < _; omega, by have := r.un; show A.units + 3 + 16 * k + 200 < _; omega⟩
theorem Room.in1 {k : Nat} {A : Around} (r : Room (k + 1) A) : Room k A.in1 :=
  ⟨r.hd, by have := r.dp; show A.depth + 3 * k + 5 < _; omega, by have := r.un; show A.units + 1 + 16 * k + 200 < _; omega⟩
theorem Room.depth {k : Nat} {A : Around} (r : Room k A) : A.depth < recursionLimit := by have := r.dp; omega
theorem Room.units {k : Nat} {A : Around} (r : Room k A) : A.units + 64 < cLine := by have := r.un; omega
def tNil : TA := fun _ H Q => Q [] H
def tCons (ta : TE) (tr : TA) : TA := fun σ H Q => ta σ H fun x H1 => tr σ H1 fun xs H2 => Q (x :: xs) H2
section
variable {X : Cx} {e : Expr} {es : List Expr} {te : TE} {t : TA} {pos : Pos}
theorem pa_nil : PA X [] tNil := fun _ _ _ _ H Q I h => Calls.spliced_nil ⟨[], H, I, .nil, h⟩
theorem pa_cons (ha : PE X e te) (hr : PA X es t) (hs : starEach (e :: es) X.env = (false, eval e X.env) :: starEach es X.env := by rfl) : PA X (e :: es) (tCons te t) := by
  intro pos pins s σ H Q I h
  rw [hs]
  show wpAny _ _ (spliced ((false, eval e X.env) :: backTo pos (starEach es X.env))) _ _ s
  refine Calls.spliced_cons (thn (ha pins s σ H _ I h) fun u s1 ⟨x, H1, I1, r1, q1⟩ => ?_)
  exact thn (hr pos pins s1 σ H1 _ I1 q1) fun us s2 ⟨xs, H2, I2, r2, q2⟩ => ⟨x :: xs, H2, I2, .cons r1 r2, q2⟩
def tTup (t : TA) : TE := fun σ H Q => t σ H fun xs H1 => xs.length ≤ sizeLine ∧ ∀ p, H1 p = none → Q (.ref p) (upd H1 p (.tup xs))
def tLst (t : TA) : TE := fun σ H Q => t σ H fun xs H1 => xs.length ≤ sizeLine ∧ ∀ p, H1 p = none → Q (.ref p) (upd H1 p (.lst xs))
theorem pe_tup {x1} (h : PA X es t) : PE X (.Tuple es x1 pos) (tTup t) := by
  intro pins s σ H Q I hq
  refine wpAny_Tuple_spliced (thn (h pos pins s σ H _ I hq) fun us s1 ⟨xs, H1, I1, r, z, q⟩ => ⟨by rw [← r.length]; exact z, ?_⟩)
  have hf : H1 s1.heap.objs.size = none := I1.hok.fresh (Nat.le_refl _)
  refine ⟨.ref s1.heap.objs.size, upd H1 s1.heap.objs.size (.tup xs), I1.laid (t' := s1.toks) (fun b u e => Heap.get?_push_of_some _ e) (Nat.le_refl _) ?_, rfl, q _ hf⟩
  exact ⟨z, us, r, ⟨_, Heap.get?_push_size _ rfl, rfl, _, rfl⟩⟩
theorem pe_lst (h : PA X es t) : PE X (.List es pos) (tLst t) := by
  intro pins s σ H Q I hq
  refine wpAny_List_spliced (thn (h pos pins s σ H _ I hq) fun us s1 ⟨xs, H1, I1, r, z, q⟩ => ⟨by rw [← r.length]; exact z, ?_⟩)
  have hf : H1 s1.heap.objs.size = none := I1.hok.fresh (Nat.le_refl _)
  refine ⟨.ref s1.heap.objs.size, upd H1 s1.heap.objs.size (.lst xs), I1.laid (t' := s1.toks) (fun b u e => Heap.get?_push_of_some _ e) (Nat.le_refl _) ?_, rfl, q _ hf⟩
  exact ⟨z, us, 0, r, Heap.get?_push_size _ rfl⟩
end
abbrev Sp := List V → Hp → VK → XK → Prop
abbrev CXT := List Env → Hp → Shared → XK → Value → Shared → Prop
structure Env0 (P : Program) (w : World) (K : PySem.W.Frag) (mg : Str → Option Value) (base : Heap) (A : Around) (outer : List Env) (s : Shared) (H : Hp) : Prop where
  frames : A.frames = some outer
  mod : Mod K mg base
  bs : ∀ b o, base.get? b = some o → s.heap.get? b = some o ∧ H b = none
  bsz : base.objs.size ≤ s.heap.objs.size
  funs : s.heap.FunFrames base outer
  frf : ∀ b ∈ frs outer, H b = none
  hok : HOk P w H s.heap
  bare : AllBare s.gens
def CE (outer : List Env) (P : Program) (w : World) (H : Hp) (s : Shared) (Q : VK) (u : Value) (s' : Shared) : Prop :=
  ∃ v H', s'.os = s.os ∧ AllBare s'.gens ∧ Un (frs outer) [] H H' s.heap s'.heap ∧ HOk P w H' s'.heap ∧ RelV v u ∧ Q v H'
def CR (CX : CXT) (outer : List Env) (P : Program) (w : World) (H : Hp) (s : Shared) (Q : VK) (E : XK) (r : Result) (s' : Shared) : Prop :=
  match r with
  | .ok (.ret u) => CE outer P w H s Q u s'
  | .ok _ => False
  | .error e => CX outer H s E e s'
structure FnOk (P : Program) (w : World) (K : PySem.W.Frag) (mg : Str → Option Value) (base : Heap) (CX : CXT) (k : Nat) (f : Addr) (fd : FuncData) (ps : List Str) (sp : Sp) : Prop where
  len : ∀ vs H Q E, sp vs H Q E → vs.length = ps.length
  run : ∀ (A : Around) (outer : List Env) (s : Shared) (H : Hp) (args : Args) (us : List Value) (vs : List V) (Q : VK) (E : XK), Room k A → Env0 P w K mg base A outer s H → BindsTo s fd args (ps.zip us) → Vals vs us → sp vs H Q E →
    codeAny (model P w) A (.call (.ref f) args) (CR CX outer P w H s Q E) s
theorem FnOk.mono {P : Program} {w : World} {K : PySem.W.Frag} {mg : Str → Option Value} {base : Heap} {CX : CXT} {j k : Nat} {f : Addr} {fd : FuncData} {ps : List Str} {sp : Sp} (F : FnOk P w K mg base CX j f fd ps sp) (h : j ≤ k) :
    FnOk P w K mg base CX k f fd ps sp := ⟨F.len, fun A outer s H args us vs Q E hr => F.run A outer s H args us vs Q E (hr.mono h)⟩
theorem FnOk.imp {P : Program} {w : World} {K : PySem.W.Frag} {mg : Str → Option Value} {base : Heap} {CX : CXT} {k : Nat} {f : Addr} {fd : FuncData} {ps : List Str} {sp sp' : Sp} (F : FnOk P w K mg base CX k f fd ps sp)
    (h : ∀ vs H Q E, sp' vs H Q E → sp vs H Q E) : FnOk P w K mg base CX k f fd ps sp' :=
  ⟨fun vs H Q E q => F.len vs H Q E (h _ _ _ _ q), fun A outer s H args us vs Q E hr he hb hv hs => F.run A outer s H args us vs Q E hr he hb hv (h _ _ _ _ hs)⟩
theorem Env0.in1 {P : Program} {w : World} {K : PySem.W.Frag} {mg : Str → Option Value} {base : Heap} {A : Around} {outer : List Env} {s : Shared} {H : Hp} (e : Env0 P w K mg base A outer s H) :
    Env0 P w K mg base A.in1 outer s H := ⟨e.frames, e.mod, e.bs, e.bsz, e.funs, e.frf, e.hok, e.bare⟩
section
variable {X : Cx} {pins : List (Addr × Obj)} {σ : St} {H : Hp} {s s' : Shared}
theorem Inv.env0 (I : Inv X pins σ H s) : Env0 X.prog X.w X.K X.mg X.base X.A X.stack s H :=
  ⟨I.ok.frames, I.ok.mod, I.bs, Nat.le_trans I.ok.bsz I.sz, I.stack, I.stkFree, I.hok, I.bare⟩
theorem Inv.after {Q : VK} {u : Value} (I : Inv X pins σ H s) (h : CE X.stack X.prog X.w H s Q u s') : EP X pins σ Q u s' := by
  obtain ⟨v, H', os, bare, un, hok, r, q⟩ := h
  obtain ⟨hh, g, d, t, os'⟩ := s'
  obtain rfl : os' = s.os := os
  exact ⟨v, H', I.call (h' := hh) (g' := g) (d' := d) (t' := t) (ch := []) un hok bare (fun b z => absurd z (by simp)), r, q⟩
end
def tCall (sp : Sp) (dvs : List V) (E : XK) (t : TA) : TE := fun σ H Q => t σ H fun vs H1 => sp (vs ++ dvs) H1 Q E
def Binds (K : PySem.W.Frag) (fd : FuncData) (ps : List Str) (ds : List Value) : Prop :=
  ∀ (s : Shared) (us : List Value), K.In s.heap → (us ++ ds).length = ps.length → BindsTo s fd ⟨us, []⟩ (ps.zip (us ++ ds))
theorem Binds.all {K : PySem.W.Frag} {fd : FuncData} {ps : List Str} (h : ∀ us : List Value, us.length = ps.length → bindArgs fd ⟨us, []⟩ = pure (ps.zip us)) : Binds K fd ps [] := fun s us _ hl => by
  rw [List.append_nil] at hl ⊢
  exact .of_eq (h us hl)
def Passes (CX : CXT) (X : Cx) (E : XK) : Prop := ∀ (pins : List (Addr × Obj)) (σ : St) (H : Hp) (s : Shared) (e : Value) (s' : Shared), Inv X pins σ H s → CX X.stack H s E e s' → X.xe e s'
section
variable {X : Cx} {CX : CXT} {k : Nat} {f C : Addr} {fd : FuncData} {ps : List Str} {sp : Sp} {dvs : List V} {ds : List Value} {E : XK} {x m : Str} {p pos apos : Pos} {e o : Expr} {es : List Expr} {ta : TE} {t : TA}
theorem run_fn {pins : List (Addr × Obj)} {σ : St} {H : Hp} {s : Shared} {Q : VK} {us : List Value} {vs : List V} (F : FnOk X.prog X.w X.K X.mg X.base CX k f fd ps sp) (hr : Room k X.A) (hb : Binds X.K fd ps ds) (hd : Vals dvs ds) (hx : Passes CX X E)
    (I : Inv X pins σ H s) (r : Vals vs us) (h : sp (vs ++ dvs) H Q E) : wpAny (model X.prog X.w) X.A (call (.ref f) us) (EP X pins σ Q) X.xe s := by
  have r2 : Vals (vs ++ dvs) (us ++ ds) := r.append hd
  have hl : (us ++ ds).length = ps.length := by rw [← r2.length]; exact F.len _ _ _ _ h
  refine wpAny_call (codeAny_mono (F.run X.A X.stack s H ⟨us, []⟩ (us ++ ds) (vs ++ dvs) Q E hr I.env0 (hb s us I.kIn hl) r2 h) fun r s' hq => ?_)
  cases r with
  | error e => exact hx pins σ H s e s' I hq
  | ok fl =>
    cases fl with
    | ret u => exact I.after hq
    | next => exact False.elim hq
    | brk => exact False.elim hq
    | cont => exact False.elim hq
theorem pe_call (F : FnOk X.prog X.w X.K X.mg X.base CX k f fd ps sp) (hr : Room k X.A) (hg : Gl X x) (hm : X.mg x = some (.ref f)) (hk : PySem.W.keepIn X.K (.ref f) = true) (hb : Binds X.K fd ps ds) (hd : Vals dvs ds) (hx : Passes CX X E)
    (ha : PA X (e :: es) t) (hdb : (x == ("__debug__" : Str)) = false := by decide) (he : starEach (e :: es) X.env = (false, eval e X.env) :: starEach es X.env := by rfl) (hpl : (backTo pos (starEach es X.env)).any (·.1) = false := by rfl) :
    PE X (.Call (.Name x p) (e :: es) [] pos) (tCall sp dvs E t) := by
  intro pins s σ H Q I h
  refine wpAny_Call_Name_kw (ld_glob I hg hm ?_ hdb)
  refine PySem.W.callWith_K (h₀ := X.base) I.ok.mod.kin hk (thn (ha pos pins s σ H _ I h) fun us s1 ⟨vs, H1, I1, r, q⟩ => ⟨I1.kIn, ?_⟩) he hpl
  exact run_fn F hr hb hd hx I1 r q
end
def PK (X : Cx) (kws : List Keyword) (t : TA) : Prop :=
  ∀ (pos : Pos) (pins : List (Addr × Obj)) (s : Shared) (σ : St) (H : Hp) (Q : List V → Hp → Prop), Inv X pins σ H s → t σ H Q → wpAny (model X.prog X.w) X.A (evalAll ((backToKw pos (keywordEach kws X.env)).map (·.2))) (AP X pins σ Q) X.xe s
section
variable {X : Cx} {CX : CXT} {k : Nat} {f C : Addr} {fd : FuncData} {ps ks : List Str} {sp : Sp} {E : XK} {x m : Str} {p pos apos kpos : Pos} {e o : Expr} {es : List Expr} {kws : List Keyword} {te ta : TE} {t tk : TA} {nm : Option Str}
theorem pk_nil : PK X [] tNil := fun _ _ _ _ H Q I h => wpAny_evalAll_nil ⟨[], H, I, .nil, h⟩
theorem pk_cons (ha : PE X e te) (hr : PK X kws t) : PK X (⟨nm, e, kpos⟩ :: kws) (tCons te t) := by
  intro pos pins s σ H Q I h
  show wpAny _ _ (evalAll ((do let v ← eval e X.env; standAt pos; pure v) :: (backToKw pos (keywordEach kws X.env)).map (·.2))) _ _ s
  refine wpAny_evalAll_cons (wpAny_bind (thn (ha pins s σ H _ I h) fun u s1 ⟨x, H1, I1, r1, q1⟩ => wpAny_bind (wpAny_standAt (wpAny_pure ?_))))
  exact thn (hr pos pins s1 σ H1 _ I1 q1) fun us s2 ⟨xs, H2, I2, r2, q2⟩ => ⟨x :: xs, H2, I2, .cons r1 r2, q2⟩
variable {g : List Value → List Value → List Value} {gV : List V → List V → List V}
end
structure FnScope (N P : List Str) (sc : Scope) : Prop where
  kind : sc.kind = .function
  co : sc.isCoroutine = false
  gen : sc.isGenerator = false
  nd : N.Nodup
  pre : N.take P.length = P
  par : ∀ x ∈ P, sc.names.lookup x = some .local ∨ sc.names.lookup x = some .cell
  nofree : ∀ y ∈ sc.names, y.2 ≠ .free
theorem bindL_out {kindOf : Str → Option NameKind} {x : Str} : ∀ {binds : List (Str × Value)} {m : Str → Option Value}, (∀ v, (x, v) ∉ binds) → bindL kindOf binds m x = m x
  | [], _, _ => rfl
  | (n, v) :: r, m, h => by
    unfold bindL
    rw [bindL_out fun w hw => h w (List.mem_cons_of_mem _ hw)]
    split
    · have : x ≠ n := by rintro rfl; exact h v List.mem_cons_self
      simp [this]
    · rfl
theorem bindC_out {kindOf : Str → Option NameKind} {x : Str} : ∀ {binds : List (Str × Value)} {m : Str → Option Value}, (∀ v, (x, v) ∉ binds) → bindC kindOf binds m x = m x
  | [], _, _ => rfl
  | (n, v) :: r, m, h => by
    unfold bindC
    rw [bindC_out fun w hw => h w (List.mem_cons_of_mem _ hw)]
    split
    · rfl
    · have : x ≠ n := by rintro rfl; exact h v List.mem_cons_self
      simp [this]
theorem bindL_get {kindOf : Str → Option NameKind} {x : Str} {v : Value} : ∀ {P : List Str} {vs : List Value} {i : Nat} {m : Str → Option Value}, P.Nodup → P[i]? = some x → vs[i]? = some v → kindOf x = some .local →
    bindL kindOf (P.zip vs) m x = some v
  | [], _, _, _, _, h, _, _ => by simp at h
  | _ :: _, [], _, _, _, _, h, _ => by simp at h
  | p :: P, w :: vs, 0, m, nd, h1, h2, hk => by
    simp at h1 h2; subst h1; subst h2
    show bindL kindOf ((p, w) :: P.zip vs) m p = _
    unfold bindL
    rw [bindL_out fun v hv => (List.nodup_cons.mp nd).1 (List.of_mem_zip hv).1, if_pos hk]
    simp
  | p :: P, w :: vs, i + 1, m, nd, h1, h2, hk => by
    show bindL kindOf ((p, w) :: P.zip vs) m x = _
    unfold bindL
    exact bindL_get (i := i) (List.nodup_cons.mp nd).2 (by simpa using h1) (by simpa using h2) hk
theorem bindC_get {kindOf : Str → Option NameKind} {x : Str} {v : Value} : ∀ {P : List Str} {vs : List Value} {i : Nat} {m : Str → Option Value}, P.Nodup → P[i]? = some x → vs[i]? = some v → kindOf x ≠ some .local →
    bindC kindOf (P.zip vs) m x = some v
  | [], _, _, _, _, h, _, _ => by simp at h
  | _ :: _, [], _, _, _, _, h, _ => by simp at h
  | p :: P, w :: vs, 0, m, nd, h1, h2, hk => by
    simp at h1 h2; subst h1; subst h2
    show bindC kindOf ((p, w) :: P.zip vs) m p = _
    unfold bindC
    rw [bindC_out fun v hv => (List.nodup_cons.mp nd).1 (List.of_mem_zip hv).1, if_neg hk]
    simp
  | p :: P, w :: vs, i + 1, m, nd, h1, h2, hk => by
    show bindC kindOf ((p, w) :: P.zip vs) m x = _
    unfold bindC
    exact bindC_get (i := i) (List.nodup_cons.mp nd).2 (by simpa using h1) (by simpa using h2) hk
def start (N : List Str) (vs : List V) : St := vs.map some ++ List.replicate (N.length - vs.length) none
def cxOf (CX : CXT) (P : Program) (w : World) (K : PySem.W.Frag) (mg : Str → Option Value) (base : Heap) (N : List Str) (qual : Str) (scope : Scope) (f : Addr) (cd : Value) (A : Around) (outer : List Env) (s : Shared) (H : Hp) (E : XK) : Cx where
  prog := P
  w := w
  K := K
  mg := mg
  base := base
  A := A.deeper (envOfC qual scope s.heap.objs.size f cd)
  N := N
  s₀ := s
  H₀ := H
  env := envOfC qual scope s.heap.objs.size f cd
  outer := outer
  stack := envOfC qual scope s.heap.objs.size f cd :: outer
  ex := []
  calm := true
  fn := fun _ => true
  pn := []
  xe := fun e s' => wpAny (model P w) (A.deeper (envOfC qual scope s.heap.objs.size f cd)) (leaving (envOfC qual scope s.heap.objs.size f cd) e) (fun _ s'' => CX outer H s E e s'') (fun e' s'' => CX outer H s E e' s'') s'
theorem cell_has {sc : Scope} {n : Nat} {x : Str} (h : sc.names.lookup x = some .cell) : ∃ c, (cellsFrom n sc.names []).lookup x = some c := by
  have q := PySem.W.cellsFrom_some sc.names n [] (.inl h)
  exact Option.isSome_iff_exists.mp q
theorem inv_start {CX : CXT} {P : Program} {w : World} {K : PySem.W.Frag} {mg : Str → Option Value} {base : Heap} {N ps : List Str} {qual : Str} {scope : Scope} {f : Addr} {cd : Value} {A : Around} {outer : List Env} {s s1 : Shared} {H : Hp} {E : XK} {us : List Value} {vs : List V}
    (S : FnScope N ps scope) (hd : A.handled = none) (e0 : Env0 P w K mg base A outer s H) (hl : vs.length = ps.length) (r : Vals vs us)
    (x : InCallC s s.heap.objs.size (bindL (envOfC qual scope s.heap.objs.size f cd).kindOf (ps.zip us) fun _ => none) (cellsFrom (s.heap.objs.size + 1) scope.names []) (bindC (envOfC qual scope s.heap.objs.size f cd).kindOf (ps.zip us) fun _ => none) s1) :
    Inv (cxOf CX P w K mg base N qual scope f cd A outer s H E) [] (start N vs) H s1 := by
  have hpl : ps.length ≤ N.length := by have := congrArg List.length S.pre; rw [List.length_take] at this; omega
  obtain ⟨h1, tk, rfl, hk⟩ := x.done
  have noA : ∀ b : Addr, b ∉ (cxOf CX P w K mg base N qual scope f cd A outer s H E).ex := fun b z => absurd (show b ∈ ([] : List Addr) from z) (by simp)
  refine ⟨⟨e0.mod, S.kind, rfl, rfl, Nat.le_refl _, fun y z c h1 h2 => ?_, fun y hy => ?_, fun y c _ h => ?_, fun _ => hd, Around.frames_deeper e0.frames, .inr ⟨rfl, rfl⟩, fun b z => absurd z (noA b), e0.bs, e0.bsz, fun b _ _ => noA b, fun b z => absurd z (noA b), e0.funs, e0.frf⟩,
    rfl, e0.bare, Un.kept hk, ⟨_, x.toInCall.ns, fun i y v h1 h2 h3 => ?_⟩, fun y c h => ⟨_, x.cell y c h⟩, e0.hok.fresh (Nat.le_refl _), fun y c h => ?_, fun p hp => absurd (show p ∈ ([] : List (Addr × Obj)) from hp) (by simp), e0.hok.kept hk, ?_⟩
  · exact name_of_addr x.apart (PySem.mem_of_lookup h1) (PySem.mem_of_lookup h2)
  · have hy : scope.names.lookup y = some .cell ∨ scope.names.lookup y = some .free := hy
    rcases hy with hy | hy
    · exact cell_has hy
    · exact absurd rfl (S.nofree _ (PySem.mem_of_lookup hy))
  · exact Nat.le_of_lt (x.above y c (PySem.mem_of_lookup h))
  · have hi : i < vs.length := by
      unfold start at h2
      by_cases hi : i < vs.length
      · exact hi
      · rw [List.getElem?_append_right (by simpa using hi)] at h2
        rw [List.getElem?_replicate] at h2
        split at h2 <;> cases h2
    have ha : vs[i]? = some v := by
      unfold start at h2
      rw [List.getElem?_append_left (by simpa using hi), List.getElem?_map] at h2
      cases e : vs[i]? with
      | none => rw [e] at h2; cases h2
      | some a => rw [e] at h2; cases h2; rfl
    obtain ⟨u, hu, rv⟩ := r.get ha
    have hp : ps[i]? = some y := by
      rw [← S.pre, List.getElem?_take_of_lt (by omega)]; exact h1
    have ndP : ps.Nodup := by rw [← S.pre]; exact S.nd.sublist (List.take_sublist _ _)
    refine ⟨u, rv, ?_⟩
    rcases S.par y (List.mem_of_getElem? hp) with k | k
    · exact .inl ⟨k, bindL_get ndP hp hu k⟩
    · obtain ⟨c, e⟩ := cell_has (n := s.heap.objs.size + 1) k
      refine .inr ⟨.inl k, c, e, ?_⟩
      have q := x.cell y c e
      rw [bindC_get ndP hp hu (by show scope.names.lookup y ≠ _; rw [k]; decide)] at q
      exact q
  · exact e0.hok.fresh (Nat.le_of_lt (x.above y c (PySem.mem_of_lookup h)))
  · unfold start
    show _ = N.length
    rw [List.length_append, List.length_map, List.length_replicate]
    omega
theorem fn_of {CX : CXT} {P : Program} {w : World} {K : PySem.W.Frag} {mg : Str → Option Value} {base : Heap} {k : Nat} {f : Addr} {name qual : Str} {params : Arguments} {body : List Stmt} {scope : Scope} {dV kV doc pm cdv ct oc : Value} {an od : Option Addr}
    {osl : Array (Option Value)} {N ps : List Str} {sp : Sp} (lk : K.lookup f = some ⟨oc, od, .func (PySem.W.fnOf name qual params body scope dV kV doc pm an cdv ct), osl⟩) (hcd : PySem.W.codeIn K cdv qual = true) (S : FnScope N ps scope)
    (len : ∀ vs H Q E, sp vs H Q E → vs.length = ps.length)
    (hbody : ∀ (A : Around) (outer : List Env) (s : Shared) (H : Hp) (vs : List V) (Q : VK) (E : XK), Room k (A.deeper (envOfC qual scope s.heap.objs.size f cdv)) → sp vs H Q E →
      ∃ t, PSs (cxOf CX P w K mg base N qual scope f cdv A outer s H E) body t ∧ t { nx := fun _ H' => Q .non H', rt := Q } (start N vs) H) :
    FnOk P w K mg base CX (k + 1) f (PySem.W.fnOf name qual params body scope dV kV doc pm an cdv ct) ps sp := by
  refine ⟨len, fun A outer s H args us vs Q E hr e0 hb r hsp => ?_⟩
  have hl := len _ _ _ _ hsp
  have KX : K.In s.heap := e0.mod.kin.keeps fun b o e => (e0.bs b o e).1
  have lim : s.heap.NoLimit := e0.mod.nolimit.keeps fun b o e => (e0.bs b o e).1
  have hkind : ∀ y ∈ ps.zip us, scope.names.lookup y.1 = some .local ∨ (scope.names.lookup y.1 = some .cell ∧ ((cellsFrom (s.heap.objs.size + 1) scope.names []).lookup y.1).isSome = true) := fun ⟨n, v⟩ hy => by
    rcases S.par n (List.of_mem_zip hy).1 with q | q
    · exact .inl q
    · exact .inr ⟨q, PySem.W.cellsFrom_some _ _ _ (.inl q)⟩
  refine codeAny_call_function hr.depth (KX _ _ lk) rfl S.co S.gen rfl (PySem.W.codeRec_of KX hcd) (hb _ _ _ _ ?_)
  refine wpAny_newFunctionEnv_cells S.kind hkind fun env he s1 x => ?_
  subst he
  refine ⟨lim.keeps x.toInCall.keep, codeAny_func ?_⟩
  obtain ⟨t, ht, hq⟩ := hbody A outer s H vs Q E (hr.deeper _) hsp
  have I : Inv (cxOf CX P w K mg base N qual scope f cdv A outer s H E) [] (start N vs) H s1 := inv_start S hr.hd e0 hl r x
  refine wpAny_mono (ht [] s1 (start N vs) H _ I hq) (fun fl s' hs => ?_) fun e s' hs => hs
  have fin : ∀ {σ' : St} {H' : Hp} {v : V} {u : Value}, Inv (cxOf CX P w K mg base N qual scope f cdv A outer s H E) [] σ' H' s' → RelV v u → Q v H' → CE outer P w H s Q u s' :=
    fun {σ' H' v u} J rv q => ⟨v, H', J.os, J.bare, J.base, J.hok, rv, q⟩
  cases fl with
  | ret u =>
    obtain ⟨v, σ', H', J, rv, q⟩ := hs
    exact fin J rv q
  | next =>
    obtain ⟨σ', H', J, q⟩ := hs
    exact fin (v := V.non) (u := Value.none) J rfl q
  | brk =>
    obtain ⟨_, _, _, q⟩ := hs
    exact False.elim q
  | cont =>
    obtain ⟨_, _, _, q⟩ := hs
    exact False.elim q
end L2
namespace L2
open PySem PySem.Spec PyProof.Rows
section
variable {X : Cx} {x : Str} {p pos : Pos} {e : Expr} {es : List Expr} {t : TA} {id T : String} {r : List V → Hp → VK → Prop}
def tCB (r : List V → Hp → VK → Prop) (t : TA) : TE := fun σ H Q => t σ H fun vs H1 => r vs H1 Q
theorem pe_callB (hc : CallR X (.builtin id) r) (hg : Gl X x) (hm : X.mg x = none) (hv : bootBuiltins x = some (.builtin id)) (ha : PA X (e :: es) t) (hn : x ≠ "__name__" := by decide) (hdb : (x == ("__debug__" : Str)) = false := by decide)
    (he : starEach (e :: es) X.env = (false, eval e X.env) :: starEach es X.env := by rfl) (hpl : (backTo pos (starEach es X.env)).any (·.1) = false := by rfl) : PE X (.Call (.Name x p) (e :: es) [] pos) (tCB r t) := by
  intro pins s σ H Q I h
  refine wpAny_Call_Name_kw (ld_blt I hg hm hv ?_ hn hdb)
  exact PyProof.Rows.callWith_builtin1 (thn (ha pos pins s σ H _ I h) fun us s1 ⟨vs, H1, I1, r1, q1⟩ => hc pins s1 σ H1 vs us Q I1 r1 q1) he hpl
theorem pe_callTy (hc : CallR X (.type T) r) (hg : Gl X x) (hm : X.mg x = none) (hv : bootBuiltins x = some (.type T)) (ha : PA X (e :: es) t) (hn : x ≠ "__name__" := by decide) (hdb : (x == ("__debug__" : Str)) = false := by decide)
    (he : starEach (e :: es) X.env = (false, eval e X.env) :: starEach es X.env := by rfl) (hpl : (backTo pos (starEach es X.env)).any (·.1) = false := by rfl) : PE X (.Call (.Name x p) (e :: es) [] pos) (tCB r t) := by
  intro pins s σ H Q I h
  refine wpAny_Call_Name_kw (ld_blt I hg hm hv ?_ hn hdb)
  exact PyProof.Rows.callWith_type1 (thn (ha pos pins s σ H _ I h) fun us s1 ⟨vs, H1, I1, r1, q1⟩ => hc pins s1 σ H1 vs us Q I1 r1 q1) he hpl
end
end L2
namespace HT
open PySem PyProof.Rows
section
open PySem.SeqAt
open PySem.AutoSeq1 (wpAny_loadPart')
open PySem.MeetsSeq PySem.MeetsSeq2 PySem.MeetsSeq3
end
section
variable {prog : Program} {w : World} {A : Around} {E : Value → Shared → Prop} {s : Shared}
def sIx (n d : Nat) : Option Int → Nat
  | none => d
  | some v => if v < 0 then (v + (n : Int)).toNat else min v.toNat n
theorem sIx_none (n d : Nat) : sIx n d none = d := rfl
theorem sIx_nat (n d k : Nat) : sIx n d (some (k : Int)) = min k n := by
  show (if (k : Int) < 0 then ((k : Int) + (n : Int)).toNat else min (k : Int).toNat n) = min k n
  rw [if_neg (by omega), Int.toNat_natCast]
end
end HT
namespace L2
open PySem PySem.Spec PyProof.Rows
abbrev TO := St → Hp → (Option Int → Hp → Prop) → Prop
def PO (X : Cx) (e : Option Expr) (t : TO) : Prop :=
  ∀ (pins : List (Addr × Obj)) (s : Shared) (σ : St) (H : Hp) (Q : Option Int → Hp → Prop), Inv X pins σ H s → t σ H Q →
    wpAny (model X.prog X.w) X.A (evalPart e X.env) (fun u s' => ∃ o H', Inv X pins σ H' s' ∧ IsPart u o ∧ Q o H') X.xe s
def tNoPart : TO := fun _ H Q => Q none H
def tPart (t : TE) : TO := fun σ H Q => t σ H fun x H1 => ∃ i, x = .int i ∧ Q (some i) H1
theorem intsAre_of {ns : List Int} : ∀ {us : List Value}, Vals (ns.map V.int) us → IntsAre us ns := by
  induction ns with
  | nil => intro us r; rw [List.map_nil] at r; cases r; exact .nil
  | cons n ns ih =>
    intro us r
    rw [List.map_cons] at r
    cases r with
    | cons r1 r2 =>
      obtain ⟨t, e⟩ := r1
      subst e
      exact .cons n t (ih r2)
section
variable {X : Cx} {e : Expr} {te : TE} {lo hi : Option Expr} {tl th : TO} {pos p2 : Pos}
theorem po_none : PO X none tNoPart := by
  intro pins s σ H Q I h
  rw [evalPart_none]
  exact wpAny_pure ⟨none, H, I, .none, h⟩
theorem po_some (h : PE X e te) : PO X (some e) (tPart te) := by
  intro pins s σ H Q I hw
  rw [evalPart_some]
  refine thn (h pins s σ H _ I hw) fun u s1 ⟨x, H1, I1, r1, q1⟩ => ?_
  obtain ⟨i, rfl, q⟩ := q1
  obtain ⟨t, rfl⟩ := r1
  exact ⟨some i, H1, I1, .int i t, q⟩
def SlR (X : Cx) (r : V → Option Int → Option Int → Hp → VK → Prop) : Prop :=
  ∀ (pins : List (Addr × Obj)) (s : Shared) (σ : St) (H : Hp) (x : V) (v vl vu : Value) (lo hi : Option Int) (sl : Addr) (Q : VK), Inv X pins σ H s → RelV x v → s.heap.IsSliceOf sl vl vu .none → IsPart vl lo → IsPart vu hi → r x lo hi H Q →
    ∃ T id, typeLookup (.type T) "__getitem__" = pure (some (.builtin id)) ∧ s.TypeIs v T ∧ wpAny (model X.prog X.w) X.A (getItem v (.ref sl)) (EP X pins σ Q) X.xe s
theorem SlR.or {r r' : V → Option Int → Option Int → Hp → VK → Prop} (h : SlR X r) (h' : SlR X r') : SlR X (fun x lo hi H Q => r x lo hi H Q ∨ r' x lo hi H Q) := by
  intro pins s σ H x v vl vu lo hi sl Q I rx hs pl pu q
  rcases q with q | q
  · exact h pins s σ H x v vl vu lo hi sl Q I rx hs pl pu q
  · exact h' pins s σ H x v vl vu lo hi sl Q I rx hs pl pu q
def tSl (r : V → Option Int → Option Int → Hp → VK → Prop) (te : TE) (tl th : TO) : TE := fun σ H Q => te σ H fun x H1 => tl σ H1 fun l H2 => th σ H2 fun u H3 => r x l u H3 Q
theorem pe_slice {r : V → Option Int → Option Int → Hp → VK → Prop} (hr : SlR X r) (he : PE X e te) (hl : PO X lo tl) (hu : PO X hi th) : PE X (.Subscript e (.Slice lo hi none p2) pos) (tSl r te tl th) := by
  intro pins s σ H Q I h
  refine Subscript_ (thn (he pins s σ H _ I h) fun v s1 ⟨x, H1, I1, r1, q1⟩ => ?_)
  refine wpAny_Slice (thn (hl pins s1 σ H1 _ I1 q1) fun vl s2 ⟨l, H2, I2, pl, q2⟩ => thn (hu pins s2 σ H2 _ I2 q2) fun vu s3 ⟨u, H3, I3, pu, q3⟩ => ?_)
  rw [evalPart_none]
  refine wpAny_pure ?_
  have I4 : Inv X pins σ H3 { s3 with heap := s3.heap.push { cls := .type "slice", data := .fields #[vl, vu, .none] } } := I3.kept (t' := s3.toks) fun b ob q => Heap.get?_push_of_some _ q
  obtain ⟨T, id, hT, ht, hg⟩ := hr pins { s3 with heap := s3.heap.push { cls := .type "slice", data := .fields #[vl, vu, .none] } } σ H3 x v vl vu l u s3.heap.objs.size Q I4 r1 (Heap.IsSliceOf.new ..) pl pu q3
  show wpAny (model X.prog X.w) X.A (subscriptTail e (.Slice lo hi none p2) v (.ref s3.heap.objs.size)) (EP X pins σ Q) X.xe { s3 with heap := s3.heap.push { cls := .type "slice", data := .fields #[vl, vu, .none] } }
  exact tail_any (ops := [.ref s3.heap.objs.size, v]) ht hT hg (by with_unfolding_all rfl)
def cutV (xs : List V) (lo hi : Option Int) : List V := (xs.drop (HT.sIx xs.length 0 lo)).take (HT.sIx xs.length xs.length hi - HT.sIx xs.length 0 lo)
theorem cutV_length (xs : List V) (lo hi : Option Int) : (cutV xs lo hi).length ≤ xs.length := by
  unfold cutV
  rw [List.length_take, List.length_drop]
  omega
end
end L2
namespace L2
open PySem PySem.Spec PyProof.Rows
def ixN (n : Nat) (i : Int) : Option Nat := if 0 ≤ i then (if i < n then some i.toNat else none) else if -(n : Int) ≤ i then some (i + n).toNat else none
def atI {α : Type} (xs : List α) (i : Int) : Option α := (ixN xs.length i).bind fun j => xs[j]?
theorem ixN_seq {n : Nat} {i : Int} {j : Nat} (h : ixN n i = some j) : seqIndex? i n = some j ∧ j < n ∧ -(n : Int) ≤ i ∧ i < n := by
  unfold ixN at h
  by_cases h0 : 0 ≤ i
  · rw [if_pos h0] at h
    by_cases h1 : i < n
    · rw [if_pos h1] at h
      have e : i.toNat = j := Option.some.inj h
      exact ⟨by rw [seqIndex_of h0 h1, e], by omega, by omega, h1⟩
    · rw [if_neg h1] at h; cases h
  · rw [if_neg h0] at h
    by_cases h1 : -(n : Int) ≤ i
    · rw [if_pos h1] at h
      have e : (i + n).toNat = j := Option.some.inj h
      exact ⟨by rw [seqIndex_neg (by omega) h1, e], by omega, h1, by omega⟩
    · rw [if_neg h1] at h; cases h
theorem atI_get {α : Type} {xs : List α} {i : Int} {v : α} (h : atI xs i = some v) : ∃ j, seqIndex? i xs.length = some j ∧ xs[j]? = some v ∧ j < xs.length ∧ -(xs.length : Int) ≤ i ∧ i < xs.length := by
  unfold atI at h
  cases e : ixN xs.length i with
  | none => rw [e] at h; cases h
  | some j =>
    rw [e] at h
    obtain ⟨h1, h2, h3, h4⟩ := ixN_seq e
    exact ⟨j, h1, h, h2, h3, h4⟩
theorem atI_nat {α : Type} {xs : List α} {j : Nat} {v : α} (h : xs[j]? = some v) : atI xs (j : Int) = some v := by
  have hj : j < xs.length := (List.getElem?_eq_some_iff.mp h).1
  have e : ixN xs.length (j : Int) = some j := by
    unfold ixN
    rw [if_pos (by omega), if_pos (by omega)]; simp
  unfold atI; rw [e]; exact h
theorem atI_last {α : Type} (xs : List α) (v : α) : atI (xs ++ [v]) (-1) = some v := by
  have hl : (xs ++ [v]).length = xs.length + 1 := by simp
  have e : ixN (xs ++ [v]).length (-1) = some xs.length := by
    unfold ixN
    rw [hl, if_neg (by decide), if_pos (by omega)]
    congr 1
    omega
  unfold atI
  rw [e]
  show (xs ++ [v])[xs.length]? = some v
  simp
def PlainIx (b : Expr) : Prop := ∀ o i, subscripted b false o i = operate [o, i] (getItem o i)
def IxR (X : Cx) (r : R2) : Prop :=
  ∀ (value slice : Expr) (pins : List (Addr × Obj)) (s : Shared) (σ : St) (H : Hp) (x y : V) (v u : Value) (Q : VK), Inv X pins σ H s → RelV x v → RelV y u → r x y H Q →
    subscripted slice false v u = operate [v, u] (getItem v u) → wpAny (model X.prog X.w) X.A (subscriptTail value slice v u) (EP X pins σ Q) X.xe s
def MtR (X : Cx) (id : String) (r : V → List V → Hp → VK → Prop) : Prop :=
  ∀ (pins : List (Addr × Obj)) (s : Shared) (σ : St) (H : Hp) (x : V) (xs : List V) (v : Value) (us : List Value) (Q : VK), Inv X pins σ H s → RelV x v → Vals xs us → r x xs H Q →
    wpAny (model X.prog X.w) X.A (call (.builtin id) (v :: us)) (EP X pins σ Q) X.xe s
section
variable {X : Cx} {a b : Expr} {ta tb : TE} {pos : Pos}
theorem IxR.or {r r' : R2} (h : IxR X r) (h' : IxR X r') : IxR X (fun x y H Q => r x y H Q ∨ r' x y H Q) := by
  intro value slice pins s σ H x y v u Q I rx ry q hs
  rcases q with q | q
  · exact h value slice pins s σ H x y v u Q I rx ry q hs
  · exact h' value slice pins s σ H x y v u Q I rx ry q hs
theorem MtR.or {id : String} {r r' : V → List V → Hp → VK → Prop} (h : MtR X id r) (h' : MtR X id r') : MtR X id (fun x xs H Q => r x xs H Q ∨ r' x xs H Q) := by
  intro pins s σ H x xs v us Q I rx rs q
  rcases q with q | q
  · exact h pins s σ H x xs v us Q I rx rs q
  · exact h' pins s σ H x xs v us Q I rx rs q
theorem pe_ix {r : R2} (hr : IxR X r) (ha : PE X a ta) (hb : PE X b tb) (hs : PlainIx b) : PE X (.Subscript a b pos) (tOp r ta tb) := by
  intro pins s σ H Q I h
  exact Subscript_ (binT ha hb I h fun v u s2 x y H2 I2 rx ry q => hr a b pins s2 σ H2 x y v u Q I2 rx ry q (hs _ _))
def rIxL (K : PySem.W.Frag) : R2 := fun x y H Q => ∃ p xs i v, x = .ref p ∧ y = .int i ∧ SqL K H p xs ∧ atI xs i = some v ∧ Q v H
def rIxT (K : PySem.W.Frag) : R2 := fun x y H Q => ∃ p xs i v, x = .ref p ∧ y = .int i ∧ SqT K H p xs ∧ atI xs i = some v ∧ Q v H
theorem ix_list : IxR X (rIxL X.K) := by
  intro value slice pins s σ H x y v u Q I rx ry h hs
  obtain ⟨p, xs, i, z, rfl, rfl, hq, he, q⟩ := h
  cases rx
  obtain ⟨t, rfl⟩ := ry
  obtain ⟨its, r, pl, hz⟩ := I.list hq
  obtain ⟨j, h1, h2, h3, h4, h5⟩ := atI_get he
  obtain ⟨w, ew, rw'⟩ := r.get h2
  have hl := r.length
  have hn := line63
  have fin : EP X pins σ Q w s := ⟨z, H, I, rw', q⟩
  by_cases h0 : 0 ≤ i
  · have hj : i.toNat = j := by
      rw [seqIndex_of h0 h5] at h1
      exact Option.some.inj h1
    exact item_listR pl.isList h0 (by omega) (by rw [hj]; simpa using ew) fin hs
  · have hj : (i + (its.toArray.size : Int)).toNat = j := by
      rw [seqIndex_neg (by omega) h4] at h1
      rw [List.size_toArray, ← hl]
      exact Option.some.inj h1
    exact subscriptTail_builtinR (x := w) pl.isList.typeIs slot_list_getitem.lookup
      (wpAny_getItem_list_neg (Q := fun r s' => r = w ∧ EP X pins σ Q r s') pl.isList (by omega) (by rw [List.size_toArray] <;> omega) (by omega) (by rw [hj]; simpa using ew) ⟨rfl, fin⟩) hs
theorem ix_tup : IxR X (rIxT X.K) := by
  intro value slice pins s σ H x y v u Q I rx ry h hs
  obtain ⟨p, xs, i, z, rfl, rfl, hq, he, q⟩ := h
  cases rx
  obtain ⟨t, rfl⟩ := ry
  obtain ⟨its, r, pl, hz⟩ := I.tuple hq
  obtain ⟨j, h1, h2, h3, h4, h5⟩ := atI_get he
  obtain ⟨w, ew, rw'⟩ := r.get h2
  have hl := r.length
  have hn := line63
  have fin : EP X pins σ Q w s := ⟨z, H, I, rw', q⟩
  exact subscriptTail_builtinR (x := w) pl.typeIs slot_tuple_getitem.lookup
    (getItem_tuple (j := j) (Q := fun r s' => r = w ∧ EP X pins σ Q r s') pl (by omega) (by omega) (by rw [List.size_toArray, ← hl]; exact h1) (by simpa using ew) ⟨rfl, fin⟩) hs
theorem Inv.lst {pins : List (Addr × Obj)} {σ : St} {H : Hp} {s : Shared} {p : Addr} {xs : List V} (I : Inv X pins σ H s) (h : H p = some (.lst xs)) :
    ∃ (its : List Value) (n : Nat), Vals xs its ∧ s.heap.get? p = some { cls := .type "list", data := .seq its.toArray n } ∧ xs.length ≤ sizeLine := by
  obtain ⟨z, its, n, r, e⟩ := I.hok p _ h
  exact ⟨its, n, r, e, z⟩
def rSetL : V → V → V → Hp → (Hp → Prop) → Prop := fun o i v H Q => ∃ p xs k j, o = .ref p ∧ i = .int k ∧ H p = some (.lst xs) ∧ ixN xs.length k = some j ∧ Q (upd H p (.lst (xs.set j v)))
theorem slice_bounds (lo hi : Option Int) (n : Nat) : (sliceBounds lo hi none n).1 = ((HT.sIx n 0 lo : Nat) : Int) ∧ (sliceBounds lo hi none n).2.1 = ((HT.sIx n n hi : Nat) : Int) ∧ (sliceBounds lo hi none n).2.2 = 1 := by
  refine ⟨?_, ?_, rfl⟩
  · cases lo with
    | none => simp [sliceBounds, HT.sIx]
    | some i =>
      simp only [sliceBounds, HT.sIx, Option.getD_none, show (1 : Int) > 0 by decide, if_true]
      by_cases h : i < 0
      · simp only [h, if_true] <;> omega
      · simp only [h, if_false] <;> omega
  · cases hi with
    | none => simp [sliceBounds, HT.sIx]
    | some i =>
      simp only [sliceBounds, HT.sIx, Option.getD_none, show (1 : Int) > 0 by decide, if_true]
      by_cases h : i < 0
      · simp only [h, if_true] <;> omega
      · simp only [h, if_false] <;> omega
theorem slicePick_cut (its : List Value) (lo hi : Option Int) : slicePick its.toArray lo hi none = ((its.drop (HT.sIx its.length 0 lo)).take (HT.sIx its.length its.length hi - HT.sIx its.length 0 lo)).toArray := by
  obtain ⟨h1, h2, h3⟩ := slice_bounds lo hi its.toArray.size
  unfold slicePick
  rw [h1, h2, h3]
  simp only [sliceRange_one, pick_run, List.size_toArray] <;> rfl
def rSlL (K : PySem.W.Frag) : V → Option Int → Option Int → Hp → VK → Prop := fun x lo hi H Q => ∃ a xs, x = .ref a ∧ SqL K H a xs ∧ ∀ p, H p = none → Q (.ref p) (upd H p (.lst (cutV xs lo hi)))
theorem sl_list : SlR X (rSlL X.K) := by
  intro pins s σ H x v vl vu lo hi sl Q I rx hs pl pu h
  obtain ⟨a, xs, rfl, hx, q⟩ := h
  cases rx
  obtain ⟨its, r, ht, hz⟩ := I.list hx
  have hlen := r.length
  refine ⟨"list", _, slot_list_getitem.lookup, ht.isList.typeIs, ?_⟩
  refine wpAny_getItem_list_slice ht.isList hs pl pu .none (by simp) ?_ (by rw [List.size_toArray] <;> omega)
  rw [slicePick_cut, ← hlen]
  refine ⟨.ref s.heap.objs.size, _, I.laid (t' := s.toks) (o := .lst (cutV xs lo hi)) (fun b ob q => Heap.get?_push_of_some _ q) (Nat.le_refl _) ?_, rfl, q _ (I.hok.fresh (Nat.le_refl _))⟩
  exact ⟨Nat.le_trans (cutV_length xs lo hi) hz, _, 0, (r.drop (HT.sIx xs.length 0 lo)).take (HT.sIx xs.length xs.length hi - HT.sIx xs.length 0 lo), Heap.get?_push_size _ rfl⟩
theorem call_len_seq : CallR X (.builtin "len") (fun xs H Q => ∃ p ys, xs = [.ref p] ∧ (SqL X.K H p ys ∨ SqT X.K H p ys) ∧ Q (.int ys.length) H) := by
  intro pins s σ H xs us Q I r h
  obtain ⟨p, ys, rfl, hq, q⟩ := h
  obtain ⟨u, rfl, rx⟩ := vals1 r
  cases rx
  have hn := line63
  rcases hq with hq | hq
  · obtain ⟨its, r', pl, hz⟩ := I.list hq
    have hlen := r'.length
    exact Calls.call_len_list pl.isList (by simp only [List.size_toArray] <;> omega) ⟨.int ys.length, H, I.tok _, ⟨s.toks + 1, by rw [List.size_toArray, hlen]⟩, q⟩
  · obtain ⟨its, r', pl, hz⟩ := I.tuple hq
    have hlen := r'.length
    exact len_tuple pl (by simp only [List.size_toArray] <;> omega) ⟨.int ys.length, H, I.tok _, ⟨s.toks + 1, by rw [List.size_toArray, hlen]⟩, q⟩
theorem CallR.or {f : Value} {r r' : List V → Hp → VK → Prop} (h : CallR X f r) (h' : CallR X f r') : CallR X f (fun xs H Q => r xs H Q ∨ r' xs H Q) := by
  intro pins s σ H xs us Q I rs q
  rcases q with q | q
  · exact h pins s σ H xs us Q I rs q
  · exact h' pins s σ H xs us Q I rs q
theorem call_list_of : CallR X (.type "list") (fun xs H Q => ∃ p ys, xs = [.ref p] ∧ (SqL X.K H p ys ∨ SqT X.K H p ys) ∧ ∀ l, H l = none → Q (.ref l) (upd H l (.lst ys))) := by
  intro pins s σ H xs us Q I r h
  obtain ⟨p, ys, rfl, hq, q⟩ := h
  obtain ⟨u, rfl, rx⟩ := vals1 r
  cases rx
  have fin : ∀ (its : List Value), Vals ys its → ys.length ≤ sizeLine → ∀ (h' : Heap) (c' : Nat), (∀ b o', s.heap.get? b = some o' → h'.get? b = some o') →
      h'.get? s.heap.objs.size = some { cls := .type "list", dict := none, data := .seq its.toArray c', slots := #[] } → EP X pins σ Q (.ref s.heap.objs.size) { s with heap := h' } := fun its r' hz h' c' kp e =>
    ⟨.ref s.heap.objs.size, _, I.laid (t' := s.toks) kp (Nat.le_refl _) (show ObjOk X.prog X.w _ h' _ (.lst ys) from ⟨hz, its, c', r', e⟩), rfl, q _ (I.hok.fresh (Nat.le_refl _))⟩
  rcases hq with hq | hq
  · obtain ⟨its, r', pl, hz⟩ := I.list hq
    have hlen := r'.length
    obtain ⟨o, ho, hc, n, hd⟩ := pl.isList
    exact call_list_seq p (.inl rfl) ho hc hd (fun h' c' kp e => fin its r' hz h' c' kp e) (by simp only [List.size_toArray] <;> omega)
  · obtain ⟨its, r', pl, hz⟩ := I.tuple hq
    have hlen := r'.length
    obtain ⟨o, ho, hc, n, hd⟩ := pl
    exact call_list_seq p (.inr rfl) ho hc hd (fun h' c' kp e => fin its r' hz h' c' kp e) (by simp only [List.size_toArray] <;> omega)
def tyV (K : PySem.W.Frag) (T : String) (x : V) (H : Hp) : Prop := match x with
  | .str _ => T = "str"
  | .int _ => T = "int"
  | .ref p => (T = "list" ∧ ∃ xs, SqL K H p xs) ∨ (T = "tuple" ∧ ∃ o, K.lookup p = some o ∧ o.cls = .type "tuple" ∧ o.dict = none) ∨
      (T = "dict" ∧ ((∃ kvs, H p = some (.dK kvs)) ∨ ∃ kvs, H p = some (.dT kvs))) ∨ (T = "set" ∧ ∃ S n, H p = some (.set S n))
  | _ => False
theorem tyV_is {pins : List (Addr × Obj)} {σ : St} {H : Hp} {s : Shared} {T : String} {x : V} {v : Value} (I : Inv X pins σ H s) (r : RelV x v) (ty : tyV X.K T x H) :
    s.TypeIs v T ∧ ∀ a, v = .ref a → ∃ ob, s.heap.get? a = some ob ∧ ob.dict = none := by
  cases x with
  | str z =>
    obtain ⟨t, rfl⟩ := r
    cases (show T = "str" from ty)
    exact ⟨typeIs_str s z t, fun _ e => nomatch e⟩
  | int i =>
    obtain ⟨t, rfl⟩ := r
    cases (show T = "int" from ty)
    exact ⟨typeIs_int s i t, fun _ e => nomatch e⟩
  | ref p =>
    cases r
    rcases ty with ⟨rfl, xs, hq⟩ | ⟨rfl, o, hk, hc, hd⟩ | ⟨rfl, hk⟩ | ⟨rfl, S, n, hk⟩
    · obtain ⟨its, _, pl, _⟩ := I.list hq
      refine ⟨pl.isList.typeIs, fun a e => ?_⟩
      cases e
      obtain ⟨o, n, e, c, hd, _⟩ := pl
      exact ⟨o, e, hd⟩
    · refine ⟨⟨o, I.kIn p o hk, hc⟩, fun a e => ?_⟩
      cases e
      exact ⟨o, I.kIn _ o hk, hd⟩
    · have z : ∃ o, s.heap.get? p = some o ∧ o.ExactDict := by
        rcases hk with ⟨kvs, hk⟩ | ⟨kvs, hk⟩
        · obtain ⟨_, _, _, _, o, _, _, e, ex, _⟩ := I.hok p _ hk
          exact ⟨o, e, ex⟩
        · obtain ⟨_, _, _, _, o, _, _, e, ex, _⟩ := I.hok p _ hk
          exact ⟨o, e, ex⟩
      obtain ⟨o, e, ex⟩ := z
      refine ⟨⟨o, e, ex.1⟩, fun a e2 => ?_⟩
      cases e2
      exact ⟨o, e, ex.2.1⟩
    · obtain ⟨o, _, _, _, e, ex, _⟩ := I.hok p _ hk
      refine ⟨⟨o, e, ex.1⟩, fun a e2 => ?_⟩
      cases e2
      exact ⟨o, e, ex.2.1⟩
  | _ => exact False.elim ty
def tBM0 (K : PySem.W.Frag) (T : String) (r : V → List V → Hp → VK → Prop) (to : TE) : TE := fun σ H Q => to σ H fun x H1 => tyV K T x H1 ∧ r x [] H1 Q
def tBM (K : PySem.W.Frag) (T : String) (r : V → List V → Hp → VK → Prop) (to : TE) (t : TA) : TE := fun σ H Q => to σ H fun x H1 => tyV K T x H1 ∧ t σ H1 fun xs H2 => r x xs H2 Q
variable {o e : Expr} {es : List Expr} {to : TE} {t : TA} {name : Str} {apos cpos : Pos} {T id : String} {r : V → List V → Hp → VK → Prop}
theorem pe_bm0 (pa : PlainAttrs T) (slot : Slot T name id) (hty : typeOf (.builtin id) = pure (.type "method_descriptor")) (hm : MtR X id r) (ho : PE X o to)
    (hbase : attributeBase o name X.env (eval o X.env) = eval o X.env := by rfl) (hline : (apos.endLine == cpos.line) = true := by rfl) : PE X (.Call (.Attribute o name apos) [] [] cpos) (tBM0 X.K T r to) := by
  intro pins s σ H Q I h
  refine wpAny_Call_method0_late hbase hline (thn (ho pins s σ H _ I h) fun v s1 ⟨x, H1, I1, r1, ty, q1⟩ => ?_)
  obtain ⟨h1, h2⟩ := tyV_is I1 r1 ty
  exact ⟨T, id, pa, slot, hty, h1, h2, Calls.callWith_builtin rfl (PySem.evalArgs_none (hm pins s1 σ H1 x [] v [] Q I1 r1 .nil q1))⟩
theorem pe_bm (pa : PlainAttrs T) (slot : Slot T name id) (hty : typeOf (.builtin id) = pure (.type "method_descriptor")) (hm : MtR X id r) (ho : PE X o to) (ha : PA X (e :: es) t)
    (hbase : attributeBase o name X.env (eval o X.env) = eval o X.env := by rfl)
    (hfew : ((backTo cpos (starEach (e :: es) X.env)).all (fun x => !x.1) && (backToKw cpos (keywordEach [] X.env)).all (fun x => x.1.isSome)
      && decide ((e :: es).length + ([] : List Keyword).length + (if ([] : List Keyword).isEmpty then 0 else 1) < 30)) = true := by rfl)
    (hline : (apos.endLine == cpos.line) = true := by rfl) (hs : starEach (e :: es) X.env = (false, eval e X.env) :: starEach es X.env := by rfl) (hplain : (backTo cpos (starEach es X.env)).any (·.1) = false := by rfl) :
    PE X (.Call (.Attribute o name apos) (e :: es) [] cpos) (tBM X.K T r to t) := by
  intro pins s σ H Q I h
  refine wpAny_Call_method_late hbase hfew hline rfl (thn (ho pins s σ H _ I h) fun v s1 ⟨x, H1, I1, r1, ty, q1⟩ => ?_)
  obtain ⟨h1, h2⟩ := tyV_is I1 r1 ty
  refine ⟨T, id, pa, slot, hty, h1, h2, ?_⟩
  have hA := ha cpos pins s1 σ H1 _ I1 q1
  rw [hs] at hA ⊢
  refine Calls.callWith_builtin (by show (false || (backTo cpos (starEach es X.env)).any (·.1)) = false; rw [hplain] <;> rfl) (Calls.evalArgs_plain ?_)
  exact thn hA fun us s2 ⟨vs, H2, I2, r2, q2⟩ => hm pins s2 σ H2 x vs v us Q I2 r1 r2 q2
end
end L2
namespace L2
open PySem PySem.Spec PyProof.Rows
def MtM (X : Cx) (id : String) (r : V → List V → Hp → VK → Prop) : Prop :=
  ∀ (pins : List (Addr × Obj)) (s : Shared) (σ : St) (H : Hp) (x : V) (xs : List V) (v : Value) (us : List Value) (Q : VK), Inv X pins σ H s → RelV x v → Vals xs us → r x xs H Q →
    wpAny (model X.prog X.w) X.A (call (.builtin id) (v :: us)) (EP X pins σ Q) X.xe s
theorem Vals.one : ∀ {x : V} {us : List Value}, Vals [x] us → ∃ u, us = [u] ∧ RelV x u
  | _, _, .cons r .nil => ⟨_, rfl, r⟩
theorem Vals.zero : ∀ {us : List Value}, Vals [] us → us = []
  | _, .nil => rfl
theorem Vals.dropLast {xs : List V} {us : List Value} (h : Vals xs us) : Vals xs.dropLast us.dropLast := by
  induction h with
  | nil => exact .nil
  | cons r t ih =>
    cases t with
    | nil => exact .nil
    | cons q t' => exact .cons r ih
theorem Vals.eraseIdx : ∀ {xs : List V} {us : List Value} (i : Nat), Vals xs us → Vals (xs.eraseIdx i) (us.eraseIdx i)
  | _, _, _, .nil => .nil
  | _, _, 0, .cons _ t => t
  | _, _, i + 1, .cons r t => .cons r (Vals.eraseIdx i t)
theorem Vals.reverse {xs : List V} {us : List Value} (h : Vals xs us) : Vals xs.reverse us.reverse := by
  induction h with
  | nil => exact .nil
  | cons r t ih => rw [List.reverse_cons, List.reverse_cons]; exact Vals.append ih (.cons r .nil)
theorem erase_last {α : Type} (l : List α) : l.eraseIdx (l.length - 1) = l.dropLast := by
  induction l with
  | nil => rfl
  | cons a r ih =>
    cases r with
    | nil => rfl
    | cons b r =>
      have e : (a :: b :: r).length - 1 = ((b :: r).length - 1) + 1 := by
        have h1 : (a :: b :: r).length = r.length + 2 := rfl
        have h2 : (b :: r).length = r.length + 1 := rfl
        omega
      rw [e, List.eraseIdx_cons_succ, ih]
      all_goals rfl
section
variable {X : Cx} {pins : List (Addr × Obj)} {σ : St} {H : Hp} {s : Shared} {l b : Addr} {xs ys zs : List V}
theorem Inv.lset {its its' : List Value} {n : Nat} {f : Array Value → Array Value} {t' : Nat} (I : Inv X pins σ H s) (hH : H l = some (.lst xs))
    (e : s.heap.get? l = some { cls := .type "list", data := .seq its.toArray n }) (hf : f its.toArray = its'.toArray) (hv : Vals ys its') (hz : ys.length ≤ sizeLine) :
    Inv X pins σ (upd H l (.lst ys)) { s with heap := s.heap.update l (Obj.mapSeq f), toks := t' } := by
  have q := PySem.IsL.update e f
  rw [hf] at q
  refine I.write (x := l) (e := l) (by rw [hH]; exact trivial) (.inl rfl) (fun b' u hb hu => (Heap.get?_update_other s.heap (Obj.mapSeq f) (Ne.symm hb)).trans hu) ⟨_, q⟩ ?_
  exact ⟨hz, its', _, hv, q⟩
theorem Inv.lnew {its : List Value} {t' : Nat} (I : Inv X pins σ H s) (hv : Vals ys its) (hz : ys.length ≤ sizeLine) :
    Inv X pins σ (upd H s.heap.objs.size (.lst ys)) { s with heap := s.heap.push { cls := .type "list", data := .seq its.toArray }, toks := t' } :=
  I.laid (fun _ _ q => Heap.get?_push_of_some _ q) (Nat.le_refl _) ⟨hz, its, 0, hv, Heap.get?_push_size _ rfl⟩
theorem Inv.fresh (I : Inv X pins σ H s) : H s.heap.objs.size = none := I.hok.fresh (Nat.le_refl _)
theorem Inv.lstM (I : Inv X pins σ H s) (hH : H l = some (.lst xs)) : xs.length ≤ sizeLine ∧ ∃ (its : List Value) (n : Nat), Vals xs its ∧ xs.length = its.length ∧ s.heap.get? l = some { cls := .type "list", data := .seq its.toArray n } := by
  obtain ⟨z, its, n, r, e⟩ := I.hok l _ hH
  exact ⟨z, its, n, r, r.length, e⟩
end
section
variable {X : Cx}
def rAppend : V → List V → Hp → VK → Prop := fun x vs H Q => ∃ l xs y, x = .ref l ∧ vs = [y] ∧ H l = some (.lst xs) ∧ xs.length < sizeLine ∧ Q .non (upd H l (.lst (xs ++ [y])))
theorem mt_append : MtM X "list.append" rAppend := by
  intro pins s σ H x vs v us Q I rx rv h
  obtain ⟨l, xs, y, rfl, rfl, hH, hz, q⟩ := h
  cases rx
  obtain ⟨u, rfl, ru⟩ := rv.one
  obtain ⟨z, its, n, r, hl, e⟩ := I.lstM hH
  refine call_meets F.slot_list_append ⟨_, e, rfl⟩ F.entry_list_append (F.args_list_append_2 _ _) (PySem.list_append l its.toArray n u (by rw [List.size_toArray]; omega)) ⟨e, ?_⟩
  refine ⟨.non, _, I.lset (its' := its ++ [u]) hH e (by simp) (r.append (.cons ru .nil)) ?_, rfl, q⟩
  rw [List.length_append, List.length_singleton]
  omega
def rPop : V → List V → Hp → VK → Prop := fun x vs H Q => ∃ l xs y, x = .ref l ∧ vs = [] ∧ H l = some (.lst xs) ∧ xs[xs.length - 1]? = some y ∧ Q y (upd H l (.lst xs.dropLast))
theorem mt_pop : MtM X "list.pop" rPop := by
  intro pins s σ H x vs v us Q I rx rv h
  obtain ⟨l, xs, y, rfl, rfl, hH, hy, q⟩ := h
  cases rx
  have hus := rv.zero
  subst hus
  obtain ⟨z, its, n, r, hl, e⟩ := I.lstM hH
  obtain ⟨u, hu, ru⟩ := r.get hy
  have hy' : its.toArray[its.toArray.size - 1]? = some u := by
    show its.toArray[its.length - 1]? = some u
    rw [← Array.getElem?_toList, ← hl]
    exact hu
  refine call_meets F.slot_list_pop ⟨_, e, rfl⟩ F.entry_list_pop (F.args_list_pop_1 _) (MeetsSeq.list_pop_last l its.toArray n u hy' (by rw [List.size_toArray]; omega)) ⟨e, ?_⟩
  refine ⟨y, _, I.lset (its' := its.dropLast) hH e ?_ r.dropLast ?_, ru, q⟩
  · show its.toArray.eraseIdxIfInBounds (its.toArray.size - 1) = its.dropLast.toArray
    rw [List.size_toArray, List.eraseIdxIfInBounds_toArray, erase_last]
  · rw [List.length_dropLast]
    omega
def rClear : V → List V → Hp → VK → Prop := fun x vs H Q => ∃ l xs, x = .ref l ∧ vs = [] ∧ H l = some (.lst xs) ∧ Q .non (upd H l (.lst []))
theorem mt_clear : MtM X "list.clear" rClear := by
  intro pins s σ H x vs v us Q I rx rv h
  obtain ⟨l, xs, rfl, rfl, hH, q⟩ := h
  cases rx
  have hus := rv.zero
  subst hus
  obtain ⟨z, its, n, r, hl, e⟩ := I.lstM hH
  refine call_meets F.slot_list_clear ⟨_, e, rfl⟩ F.entry_list_clear (F.args_list_clear_1 _) (AutoSeq1.list_clear_list_0 l its.toArray n (by rw [List.size_toArray]; omega)) ⟨e, ?_⟩
  exact ⟨.non, _, I.lset (its' := []) (ys := []) hH e rfl .nil (Nat.zero_le _), rfl, q⟩
def rCat : R2 := fun x y H Q => ∃ l b xs zs, x = .ref l ∧ y = .ref b ∧ H l = some (.lst xs) ∧ H b = some (.lst zs) ∧ xs.length + zs.length ≤ sizeLine ∧ ∀ p, H p = none → Q (.ref p) (upd H p (.lst (xs ++ zs)))
theorem op_cat : OpR X (binaryOp .Add) rCat := by
  intro pins s σ H x y v u Q I rx ry h
  obtain ⟨l, b, xs, zs, rfl, rfl, hH, hB, hz, q⟩ := h
  cases rx
  cases ry
  obtain ⟨z, its, n, r, hl, e⟩ := I.lstM hH
  obtain ⟨z2, its2, n2, r2, hl2, e2⟩ := I.lstM hB
  refine PySem.P.add_list e e2 ?_ (by rw [List.size_toArray, List.size_toArray]; omega)
  have ea : its.toArray ++ its2.toArray = (its ++ its2).toArray := by simp
  rw [ea]
  exact ⟨.ref _, _, I.lnew (t' := s.toks) (r.append r2) (by rw [List.length_append]; omega), rfl, q _ I.fresh⟩
end
section
variable {prog : Program} {w : World} {A : Around} {E : Value → Shared → Prop} {s : Shared}
end
section
variable {X : Cx}
end
end L2
namespace Att
open PySem PySem.W PySem.Calls PyProof.Rows
theorem ints_of_wellAll {P : Params} {h : Heap} : ∀ (ns : List Int) (vs : List Value), WellAll P h vs (ns.map WData.int) → IntsAre vs ns := by
  intro ns
  induction ns with
  | nil =>
    intro vs w
    rw [List.map_nil] at w
    cases w
    exact .nil
  | cons n ns ih =>
    intro vs w
    rw [List.map_cons] at w
    cases w with
    | cons a b =>
      cases a
      exact .cons _ _ (ih _ b)
theorem script_of {l : OpenLaw} {n : Nat} (hn : l.most = some n) {P : Params} {h : Heap} {args : List WData} {vals : List Value}
    (hpre : l.row.toRowW.claim.pre args = true) (hwl : WellAll P h vals args) :
    ∃ a vs ns, vals = [Value.ref a] ∧ args = [WData.list (ns.map WData.int)] ∧ h.get? a = some { cls := .type "list", data := .seq vs.toArray } ∧ IntsAre vs ns ∧ ns.length ≤ n := by
  have hsh : WShape.hasAll [] args [.list .int] = true := (pre_splitW hpre).1
  have hc : l.pre.holds [] { args := args } = true := (pre_splitW hpre).2
  obtain ⟨d, r, rfl, h1, h2⟩ := hasAllW_cons hsh
  obtain rfl := hasAllW_nil h2
  obtain ⟨xs, rfl, h3⟩ := hasW_list h1
  obtain ⟨ns, rfl⟩ := items_int h3
  have hlen : ns.length ≤ n := by
    unfold OpenLaw.pre at hc
    have h4 : (WTm.not (.lt (.lit (.int (n : Int))) (.len (.arg 0)))).holds [] { args := [.list (ns.map .int)] } = true := by
      have h4 := (holds_andW hc).1
      rw [hn] at h4
      exact h4
    have h5 := condW_of h4 (w_not (w_lt w_lit (w_len_list (w_arg rfl))))
    rw [List.length_map] at h5
    refine Nat.le_of_not_lt fun q => ?_
    have q' : (n : Int) < ((ns.length : Nat) : Int) := by omega
    first
      | (rw [decide_eq_true q'] at h5; exact absurd h5 (by decide))
      | (simp at h5; omega)
  cases hwl with
  | cons w1 w2 =>
    cases w2
    cases w1 with
    | list ho hall => exact ⟨_, _, ns, rfl, rfl, ho, ints_of_wellAll ns _ hall, hlen⟩
theorem post_true (l : OpenLaw) (args : List WData) : l.row.toRowW.claim.post args (.bool true) args = true :=
  postW_of (r := l.row.toRowW) (X := (true == true))
    (show WShape.has [] (.bool true) .bool = true by first | rfl | decide | simp [WShape.has, WShape.arms, WShape.armsAll])
    (show (WTm.eq .res (.lit (.bool true))).value [] { args := args, res := some (.bool true), after := args } = some (.bool (true == true)) from w_eq_bool (w_res rfl) w_lit) rfl
theorem attach_call {l : OpenLaw} {n : Nat} {q : Program} {loose : List Str} {XP : (Str → Option Value) → Heap → Prop} {YP : World → Heap → Prop} {d : DefRec}
    (hn : l.most = some n) (hdf : d.params.defaults = [])
    (call : ∀ (w : World) (s₀ s₁ : Shared) (mg mb : Str → Option Value) (fa : Addr) (o : Obj) (pm cd doc : Value) (a : Addr) (vs : List Value) (ns : List Int),
      Ground q loose [] XP w s₀ mg mb s₁.heap → YP w s₁.heap →
      s₁.heap.get? fa = some o → o.data = .func (docDef d.name d.params d.body d.scope pm cd doc) → s₁.heap.CodeRec cd d.name → mg d.name = some (.ref fa) →
      s₁.heap.get? a = some { cls := .type "list", data := .seq vs.toArray } → IntsAre vs ns → ns.length ≤ n → s₁.gens = #[] →
      codeAny (model l.prog w) callerA (.call (.ref fa) ⟨[.ref a], []⟩) (fun r s' => r = .ok (.ret (.bool true)) ∧ OldK s₁.heap s'.heap ∧ s'.os = s₁.os ∧ AllBare s'.gens) s₁) :
    WalkO q loose XP YP l.row.toRowW d [] (fun f vs => PySem.call f vs) := by
  intro w s₀ s₁ mg mb G Y fa o pm cd doc dV kV ho hd hcd hD hmg hg args vals as hpre hlay hrd hwl hlo
  obtain rfl : dV = .none := Dflts.none hD hdf
  obtain rfl : kV = .none := Dflts.noKw hD
  obtain ⟨a, vs, ns, rfl, rfl, hobj, hints, hlen⟩ := script_of hn hpre hwl
  refine enter_call (codeAny_mono (call w s₀ s₁ mg mb fa o pm cd doc a vs ns G Y ho (fd_plain hd) hcd hmg hobj hints hlen hg) fun r s' hq => ?_)
  obtain ⟨rfl, h2, h3, h4⟩ := hq
  exact ⟨.inl ⟨.bool true, .bool true, [], rfl, fun _ => rfl, .bool true, post_true l _, fun _ => ⟨List.Pairwise.nil, fun _ hm => (nomatch hm)⟩⟩, h2, h3, h4⟩
section
variable {prog : Program} {w : World} {A : Around} {E : Value → Shared → Prop} {s : Shared} {K : Frag}
end
end Att
namespace L2
open PySem PySem.Spec PyProof.Rows
theorem vals_ints : ∀ {vs : List Value} {ns : List Int}, IntsAre vs ns → Vals (ns.map V.int) vs
  | _, _, .nil => .nil
  | _, _, .cons n t h => .cons ⟨t, rfl⟩ (vals_ints h)
end L2
namespace L2
open PySem PySem.Spec PyProof.Rows
end L2
namespace L2
open PySem PySem.Spec PyProof.Rows
def defArgs (s : Stmt) : Arguments := match s with
  | .FunctionDef _ a _ _ _ _ _ _ _ _ => a
  | _ => { posonlyargs := [], args := [], vararg := none, kwonlyargs := [], kw_defaults := [], kwarg := none, defaults := [] }
def defBody (s : Stmt) : List Stmt := match s with
  | .FunctionDef _ _ b _ _ _ _ _ _ _ => b
  | _ => []
def defScope (s : Stmt) : Scope := match s with
  | .FunctionDef _ _ _ _ _ _ sc _ _ _ => sc
  | _ => { kind := .function, names := [], isGenerator := false, isCoroutine := false }
abbrev CX0 : CXT := fun _ _ _ _ _ _ => False
abbrev E0 : XK := fun _ _ _ => False
theorem pass0 {X : Cx} : Passes CX0 X E0 := fun _ _ _ _ _ _ _ h => h.elim
structure Fun (K : PySem.W.Frag) (x qual : Str) (st : Stmt) (f : Addr) (fd : FuncData) : Prop where
  ex : ∃ (oc : Value) (od : Option Addr) (kV doc pm : Value) (an : Option Addr) (cdv ct : Value) (osl : Array (Option Value)),
    fd = PySem.W.fnOf x qual (defArgs st) (defBody st) (defScope st) .none kV doc pm an cdv ct ∧ K.lookup f = some ⟨oc, od, .func fd, osl⟩ ∧ PySem.W.codeIn K cdv qual = true
  kp : PySem.W.keepIn K (.ref f) = true
section
variable {P : Program} {w : World} {K : PySem.W.Frag} {mg : Str → Option Value} {base : Heap}
theorem Fun.ok {x qual : Str} {st : Stmt} {f : Addr} {fd : FuncData} {N ps : List Str} {k : Nat} {sp : Sp} (F : Fun K x qual st f fd) (S : FnScope N ps (defScope st)) (len : ∀ vs H Q E, sp vs H Q E → vs.length = ps.length)
    (hbody : ∀ (cdv : Value) (A : Around) (outer : List Env) (s : Shared) (H : Hp) (vs : List V) (Q : VK) (E : XK), Room k (A.deeper (envOfC qual (defScope st) s.heap.objs.size f cdv)) → sp vs H Q E →
      ∃ t, PSs (cxOf CX0 P w K mg base N qual (defScope st) f cdv A outer s H E).nox (defBody st) t ∧ t { nx := fun _ H' => Q .non H', rt := Q } (start N vs) H) : FnOk P w K mg base CX0 (k + 1) f fd ps sp := by
  obtain ⟨oc, od, kV, doc, pm, an, cdv, ct, osl, rfl, lk, hcd⟩ := F.ex
  refine fn_of lk hcd S len fun A outer s H vs Q E hr hsp => ?_
  obtain ⟨t, h, q⟩ := hbody cdv A outer s H vs Q E hr hsp
  exact ⟨t, h.nox, q⟩
theorem Fun.binds {x qual : Str} {st : Stmt} {f : Addr} {fd : FuncData} {ps : List Str} (F : Fun K x qual st f fd)
    (h : ∀ (kV doc pm : Value) (an : Option Addr) (cdv ct : Value) (us : List Value), us.length = ps.length → bindArgs (PySem.W.fnOf x qual (defArgs st) (defBody st) (defScope st) .none kV doc pm an cdv ct) ⟨us, []⟩ = pure (ps.zip us)) : Binds K fd ps [] := by
  obtain ⟨oc, od, kV, doc, pm, an, cdv, ct, osl, rfl, lk, hcd⟩ := F.ex
  exact .all (h kV doc pm an cdv ct)
theorem fun_mk {x qual : Str} {st : Stmt} {f : Addr} {oc : Value} {od an : Option Addr} {osl : Array (Option Value)} {kV doc pm cdv ct : Value} (l : K.lookup f = some ⟨oc, od, .func (PySem.W.fnOf x qual (defArgs st) (defBody st) (defScope st) .none kV doc pm an cdv ct), osl⟩)
    (c : PySem.W.codeIn K cdv qual = true) (k : PySem.W.keepIn K (.ref f) = true) : Fun K x qual st f (PySem.W.fnOf x qual (defArgs st) (defBody st) (defScope st) .none kV doc pm an cdv ct) := ⟨⟨oc, od, kV, doc, pm, an, cdv, ct, osl, rfl, l, c⟩, k⟩
end
theorem hu_of {A : Around} {k : Nat} (hr : Room k A) : A.units + 1 < cLine := Nat.lt_of_le_of_lt (Nat.add_le_add_left (by decide : 1 ≤ 64) _) hr.units
theorem small1000 {n : Nat} (h : n ≤ 1000) : n < sizeLine := Nat.lt_of_le_of_lt h (by decide)
section
variable {X : Cx}
theorem pv (i : Nat) {x : Str} {pos : Pos} (hN : X.N[i]? = some x := by rfl) (hv : Vis X.env.scope x := by first | exact Or.inl rfl | exact Or.inr (Or.inl rfl) | exact Or.inr (Or.inr rfl)) (hd : (x == ("__debug__" : Str)) = false := by decide)
    (hcd : (x == ("__classdict__" : Str)) = false := by decide) : PE X (.Name x pos) (tVar i) := pe_var hN hv hd hcd
end
theorem iteF {A B : Prop} (h : B) : if false = true then A else B := by
  rw [if_neg Bool.false_ne_true]
  exact h
theorem iteT {A B : Prop} (h : A) : if true = true then A else B := by
  rw [if_pos rfl]
  exact h
theorem ite2 {c A B : Prop} [Decidable c] (h1 : c → A) (h2 : ¬ c → B) : if c then A else B := by
  by_cases h : c
  · rw [if_pos h]
    exact h1 h
  · rw [if_neg h]
    exact h2 h
def Same (H H' : Hp) : Prop := ∀ b o, H b = some o → H' b = some o
theorem Same.refl (H : Hp) : Same H H := fun _ _ h => h
theorem Same.trans {H H1 H2 : Hp} (a : Same H H1) (b : Same H1 H2) : Same H H2 := fun c o h => b c o (a c o h)
theorem Same.free {H H' : Hp} (e : Same H H') {l : Addr} (h : H' l = Option.none) : H l = Option.none := by
  cases q : H l with
  | none => rfl
  | some o =>
    rw [e l o q] at h
    cases h
theorem Same.seq {K : PySem.W.Frag} {H H' : Hp} {a : Addr} {xs : List V} (e : Same H H') (h : SqL K H a xs) : SqL K H' a xs := by
  rcases h with (h | ⟨o, h⟩) | h
  · exact .inl (.inl (e _ _ h))
  · exact .inl (.inr ⟨o, e _ _ h⟩)
  · exact .inr h
end L2
set_option Elab.async false
set_option linter.all false
set_option maxRecDepth 100000
set_option maxHeartbeats 4000000
namespace L2
open PySem PySem.Spec PyProof.Rows
section
variable {X : Cx}
def CBig (i j : Int) : Prop := i.natAbs < 2 ^ 1000000 ∧ j.natAbs < 2 ^ 1000000
theorem CBig.ok {i j : Int} (h : CBig i j) : IntMulOk i j :=
  PySem.IntMulOk.of_le (PySem.intBits_le_iff.mpr h.1) (PySem.intBits_le_iff.mpr h.2) (by decide)
theorem op_mulB : OpR X (binaryOp .Mult) (rI CBig fun i j => .int (i * j)) := opI fun _ _ _ _ _ _ _ hc q => mul_int q hc.ok
def CDivB (_i j : Int) : Prop := j ≠ 0 ∧ j.natAbs < 2 ^ 8999
theorem op_fdivB : OpR X (binaryOp .FloorDiv) (rI CDivB fun i j => .int (i.fdiv j)) := opI fun _ j _ _ _ _ _ hc q => by
  refine floordiv_int hc.1 q (.inl (PyProof.noPylong_of_log2 ?_))
  have h0 : j.natAbs ≠ 0 := by have := hc.1; omega
  have := (Nat.log2_lt h0).mpr hc.2
  omega
theorem bt_abs : bootBuiltins "abs" = some (.builtin "abs") := by decide +kernel
theorem bt_len : bootBuiltins "len" = some (.builtin "len") := by decide +kernel
theorem bt_isinstance : bootBuiltins "isinstance" = some (.builtin "isinstance") := by decide +kernel
theorem bt_list : bootBuiltins "list" = some (.type "list") := by decide +kernel
def dictO (a : Addr) : HO := .ext fun h => ∃ o, h.get? a = some o ∧ o.cls = .type "dict"
def tyN (K : PySem.W.Frag) (H : Hp) (x : V) (T : String) : Prop := match x with
  | .non => T = "NoneType"
  | .bl _ => T = "bool"
  | .int _ => T = "int"
  | .str _ => T = "str"
  | .ref p => (T = "list" ∧ ∃ xs, SqL K H p xs) ∨ (T = "tuple" ∧ ∃ xs, SqT K H p xs) ∨ (T = "dict" ∧ H p = some (dictO p))
  | _ => False
theorem tyN_is {pins : List (Addr × Obj)} {σ : St} {H : Hp} {s : Shared} {T : String} {x : V} {v : Value} (I : Inv X pins σ H s) (r : RelV x v) (ty : tyN X.K H x T) : s.TypeIs v T := by
  cases x with
  | non => cases r; cases (show T = "NoneType" from ty); rfl
  | bl b => cases r; cases (show T = "bool" from ty); rfl
  | int i => obtain ⟨t, rfl⟩ := r; cases (show T = "int" from ty); exact typeIs_int s i t
  | str z => obtain ⟨t, rfl⟩ := r; cases (show T = "str" from ty); exact typeIs_str s z t
  | ref p =>
    cases r
    rcases ty with ⟨rfl, xs, hq⟩ | ⟨rfl, xs, hq⟩ | ⟨rfl, hq⟩
    · obtain ⟨its, _, pl, _⟩ := I.list hq
      exact pl.isList.typeIs
    · obtain ⟨its, _, ⟨o, e, c, _⟩, _⟩ := I.tuple hq
      exact ⟨o, e, c⟩
    · obtain ⟨⟨o, e, c⟩, _⟩ := I.hok p _ hq
      exact ⟨o, e, c⟩
  | _ => exact False.elim ty
theorem isi_gen {pins : List (Addr × Obj)} {σ : St} {H : Hp} {s : Shared} {Tx T : String} {b : Bool} {x : V} {v : Value} {Q : VK} (hne : b = false → (Value.type Tx == Value.type T) = false)
    (hty : typeOf (.type T) = pure (.type "type")) (hsub : isSubtype (.type Tx) (.type T) = pure b) (I : Inv X pins σ H s) (r : RelV x v) (ht : tyN X.K H x Tx) (q : Q (.bl b) H) :
    wpAny (model X.prog X.w) X.A (call (.builtin "isinstance") [v, .type T]) (EP X pins σ Q) X.xe s := by
  cases b with
  | true => exact call_isinstance_yes (tyN_is I r ht) hty hsub ⟨.bl true, H, I, rfl, q⟩
  | false =>
    have hq : EP X pins σ Q (.bool false) { s with toks := s.toks + 1 } := ⟨.bl false, H, I.tok _, rfl, q⟩
    cases x with
    | non => cases r; cases (show Tx = "NoneType" from ht); exact call_isinstance (isinstance_false_none (hne rfl) hty hsub) hq
    | bl b => cases r; cases (show Tx = "bool" from ht); exact call_isinstance (isinstance_false_bool (hne rfl) hty hsub) hq
    | int i => obtain ⟨t, rfl⟩ := r; cases (show Tx = "int" from ht); exact call_isinstance (isinstance_false_int (hne rfl) hty hsub) hq
    | str z => obtain ⟨t, rfl⟩ := r; cases (show Tx = "str" from ht); exact call_isinstance (isinstance_false_str (hne rfl) hty hsub) hq
    | ref p =>
      have ty := tyN_is I r ht
      cases r
      rcases ht with ⟨rfl, xs, hs⟩ | ⟨rfl, xs, hs⟩ | ⟨rfl, hs⟩
      · exact call_isinstance (isinstance_false_list (hne rfl) hty hsub) ⟨ty, hq⟩
      · exact call_isinstance (isinstance_false_tuple (hne rfl) hty hsub) ⟨ty, hq⟩
      · exact call_isinstance (isinstance_false_dict (hne rfl) hty hsub) ⟨ty, hq⟩
    | _ => exact False.elim ht
def isiB (Tx T : String) : Bool := (Tx == T) || (Tx == "bool" && T == "int")
theorem meta_list : typeOf (.type "list") = pure (.type "type") := by kernel_rfl
theorem tyN_in {K : PySem.W.Frag} {H : Hp} {x : V} {T : String} (h : tyN K H x T) : T = "NoneType" ∨ T = "bool" ∨ T = "int" ∨ T = "str" ∨ T = "list" ∨ T = "tuple" ∨ T = "dict" := by
  cases x with
  | non => exact .inl h
  | bl b => exact .inr (.inl h)
  | int i => exact .inr (.inr (.inl h))
  | str z => exact .inr (.inr (.inr (.inl h)))
  | ref p =>
    rcases h with ⟨h, _⟩ | ⟨h, _⟩ | ⟨h, _⟩
    · exact .inr (.inr (.inr (.inr (.inl h))))
    · exact .inr (.inr (.inr (.inr (.inr (.inl h)))))
    · exact .inr (.inr (.inr (.inr (.inr (.inr h)))))
  | _ => exact False.elim h
def rIsi (K : PySem.W.Frag) (T : String) : List V → Hp → VK → Prop := fun xs H Q => ∃ x Tx, xs = [x, .ty T] ∧ tyN K H x Tx ∧ Q (.bl (isiB Tx T)) H
theorem isi_T {T : String} (hty : typeOf (.type T) = pure (.type "type")) (h1 : isSubtype (.type "NoneType") (.type T) = pure (isiB "NoneType" T)) (h2 : isSubtype (.type "bool") (.type T) = pure (isiB "bool" T)) (h3 : isSubtype (.type "int") (.type T) = pure (isiB "int" T))
    (h4 : isSubtype (.type "str") (.type T) = pure (isiB "str" T)) (h5 : isSubtype (.type "list") (.type T) = pure (isiB "list" T)) (h6 : isSubtype (.type "tuple") (.type T) = pure (isiB "tuple" T)) (h7 : isSubtype (.type "dict") (.type T) = pure (isiB "dict" T))
    (hn : ∀ Tx ∈ ["NoneType", "bool", "int", "str", "list", "tuple", "dict"], isiB Tx T = false → (Value.type Tx == Value.type T) = false) : CallR X (.builtin "isinstance") (rIsi X.K T) := by
  intro pins s σ H xs us Q I r h
  obtain ⟨x, Tx, rfl, ht, q⟩ := h
  obtain ⟨u, w', rfl, ru, rw'⟩ := vals2 r
  cases rw'
  rcases tyN_in ht with rfl | rfl | rfl | rfl | rfl | rfl | rfl
  · exact isi_gen (hn _ (by simp)) hty h1 I ru ht q
  · exact isi_gen (hn _ (by simp)) hty h2 I ru ht q
  · exact isi_gen (hn _ (by simp)) hty h3 I ru ht q
  · exact isi_gen (hn _ (by simp)) hty h4 I ru ht q
  · exact isi_gen (hn _ (by simp)) hty h5 I ru ht q
  · exact isi_gen (hn _ (by simp)) hty h6 I ru ht q
  · exact isi_gen (hn _ (by simp)) hty h7 I ru ht q
theorem call_isi_list : CallR X (.builtin "isinstance") (rIsi X.K "list") := isi_T meta_list (by rw [isSubtype_type]; kernel_rfl) (by rw [isSubtype_type]; kernel_rfl) (by rw [isSubtype_type]; kernel_rfl) (by rw [isSubtype_type]; kernel_rfl) (by rw [isSubtype_type]; kernel_rfl) (by rw [isSubtype_type]; kernel_rfl) (by rw [isSubtype_type]; kernel_rfl) (by decide +kernel)
end
end L2
set_option Elab.async false
set_option linter.all false
set_option maxRecDepth 100000
set_option maxHeartbeats 4000000
namespace L2
open PySem PySem.Spec PyProof.Rows
theorem cx_K {CX : CXT} {P : Program} {w : World} {K : PySem.W.Frag} {mg : Str → Option Value} {base : Heap} {N : List Str} {qual : Str} {scope : Scope} {f : Addr} {cd : Value} {A : Around} {outer : List Env} {s : Shared} {H : Hp} {E : XK} :
    (cxOf CX P w K mg base N qual scope f cd A outer s H E).K = K := rfl
theorem tyN_non {K : PySem.W.Frag} {H : Hp} {T : String} : tyN K H .non T = (T = "NoneType") := rfl
theorem tyN_bl {K : PySem.W.Frag} {H : Hp} {T : String} {b : Bool} : tyN K H (.bl b) T = (T = "bool") := rfl
theorem tyN_int {K : PySem.W.Frag} {H : Hp} {T : String} {i : Int} : tyN K H (.int i) T = (T = "int") := rfl
theorem tyN_str {K : PySem.W.Frag} {H : Hp} {T : String} {x : Str} : tyN K H (.str x) T = (T = "str") := rfl
theorem isi_ii : isiB "int" "int" = true := by decide +kernel
theorem isi_ib : isiB "int" "bool" = false := by decide +kernel
theorem isi_it : isiB "int" "tuple" = false := by decide +kernel
theorem isi_il : isiB "int" "list" = false := by decide +kernel
theorem isi_bi : isiB "bool" "int" = true := by decide +kernel
theorem isi_bb : isiB "bool" "bool" = true := by decide +kernel
theorem isi_ni : isiB "NoneType" "int" = false := by decide +kernel
theorem isi_si : isiB "str" "int" = false := by decide +kernel
theorem isi_ti : isiB "tuple" "int" = false := by decide +kernel
theorem isi_li : isiB "list" "int" = false := by decide +kernel
theorem isi_di : isiB "dict" "int" = false := by decide +kernel
theorem isi_tt : isiB "tuple" "tuple" = true := by decide +kernel
theorem isi_ll : isiB "list" "list" = true := by decide +kernel
theorem scal_ii {i j : Int} : scal (.int i) (.int j) = true := rfl
theorem scal_bb {i j : Bool} : scal (.bl i) (.bl j) = true := rfl
theorem Same.tup {K : PySem.W.Frag} {H H' : Hp} {a : Addr} {xs : List V} (e : Same H H') (h : SqT K H a xs) : SqT K H' a xs := by
  rcases h with (h | ⟨o, h⟩) | h
  · exact .inl (.inl (e _ _ h))
  · exact .inl (.inr ⟨o, e _ _ h⟩)
  · exact .inr h
theorem same_new {H : Hp} {p : Addr} (h : H p = none) (o : HO) : Same H (upd H p o) := fun b u q => by rw [upd_ne (ne_of_none q h)]; exact q
theorem cbig {i j : Int} {m n : Nat} (h1 : i.natAbs < 2 ^ m) (h2 : j.natAbs < 2 ^ n) (hm : m ≤ 1000000 := by decide) (hn : n ≤ 1000000 := by decide) : CBig i j :=
  ⟨Nat.lt_of_lt_of_le h1 (Nat.pow_le_pow_right (by decide) hm), Nat.lt_of_lt_of_le h2 (Nat.pow_le_pow_right (by decide) hn)⟩
theorem cdivb {i j : Int} {n : Nat} (h0 : j ≠ 0) (h : j.natAbs < 2 ^ n) (hn : n ≤ 8999 := by decide) : CDivB i j := ⟨h0, Nat.lt_of_lt_of_le h (Nat.pow_le_pow_right (by decide) hn)⟩
def getI (σ : St) (i : Nat) : Int := match σ[i]? with
  | some (some (.int x)) => x
  | _ => 0
theorem sz0 : (0 ≤ sizeLine) = True := eq_true (by decide)
theorem sz1 : (1 ≤ sizeLine) = True := eq_true (by decide)
theorem sz2 : (2 ≤ sizeLine) = True := eq_true (by decide)
theorem sz3 : (3 ≤ sizeLine) = True := eq_true (by decide)
theorem sz4 : (4 ≤ sizeLine) = True := eq_true (by decide)
def NS (e : Expr) : Prop := ∀ es env, starEach (e :: es) env = (false, eval e env) :: starEach es env
theorem ns_Constant {a b c} : NS (Expr.Constant a b c) := fun _ _ => rfl
theorem ns_Name {a b} : NS (Expr.Name a b) := fun _ _ => rfl
theorem ns_Call {a b c d} : NS (Expr.Call a b c d) := fun _ _ => rfl
theorem ns_BinOp {a b c d} : NS (Expr.BinOp a b c d) := fun _ _ => rfl
theorem ns_UnaryOp {a b c} : NS (Expr.UnaryOp a b c) := fun _ _ => rfl
theorem ns_Tuple {a b c} : NS (Expr.Tuple a b c) := fun _ _ => rfl
theorem ns_Subscript {a b c} : NS (Expr.Subscript a b c) := fun _ _ => rfl
theorem ns_ListComp {a b c d} : NS (Expr.ListComp a b c d) := fun _ _ => rfl
section
variable {X : Cx}
theorem pa1 {e1 : Expr} {t1 : TE} (h1 : PE X e1 t1) (n1 : NS e1) : PA X [e1] (tCons t1 tNil) := (pa_cons h1 pa_nil (n1 _ _))
theorem pa2 {e1 e2 : Expr} {t1 t2 : TE} (h1 : PE X e1 t1) (n1 : NS e1) (h2 : PE X e2 t2) (n2 : NS e2) : PA X [e1, e2] (tCons t1 (tCons t2 tNil)) := (pa_cons h1 (pa_cons h2 pa_nil (n2 _ _)) (n1 _ _))
theorem pa3 {e1 e2 e3 : Expr} {t1 t2 t3 : TE} (h1 : PE X e1 t1) (n1 : NS e1) (h2 : PE X e2 t2) (n2 : NS e2) (h3 : PE X e3 t3) (n3 : NS e3) : PA X [e1, e2, e3] (tCons t1 (tCons t2 (tCons t3 tNil))) := (pa_cons h1 (pa_cons h2 (pa_cons h3 pa_nil (n3 _ _)) (n2 _ _)) (n1 _ _))
theorem pa5 {e1 e2 e3 e4 e5 : Expr} {t1 t2 t3 t4 t5 : TE} (h1 : PE X e1 t1) (n1 : NS e1) (h2 : PE X e2 t2) (n2 : NS e2) (h3 : PE X e3 t3) (n3 : NS e3) (h4 : PE X e4 t4) (n4 : NS e4) (h5 : PE X e5 t5) (n5 : NS e5) : PA X [e1, e2, e3, e4, e5] (tCons t1 (tCons t2 (tCons t3 (tCons t4 (tCons t5 tNil))))) := (pa_cons h1 (pa_cons h2 (pa_cons h3 (pa_cons h4 (pa_cons h5 pa_nil (n5 _ _)) (n4 _ _)) (n3 _ _)) (n2 _ _)) (n1 _ _))
theorem pss2 {e1 e2 : Stmt} {t1 t2 : TS} (h1 : PS X e1 t1) (h2 : PS X e2 t2) : PSs X [e1, e2] (tSeq t1 t2) := (pss_cons h1 (pss_one h2))
theorem pss3 {e1 e2 e3 : Stmt} {t1 t2 t3 : TS} (h1 : PS X e1 t1) (h2 : PS X e2 t2) (h3 : PS X e3 t3) : PSs X [e1, e2, e3] (tSeq t1 (tSeq t2 t3)) := (pss_cons h1 (pss_cons h2 (pss_one h3)))
theorem pss4 {e1 e2 e3 e4 : Stmt} {t1 t2 t3 t4 : TS} (h1 : PS X e1 t1) (h2 : PS X e2 t2) (h3 : PS X e3 t3) (h4 : PS X e4 t4) : PSs X [e1, e2, e3, e4] (tSeq t1 (tSeq t2 (tSeq t3 t4))) := (pss_cons h1 (pss_cons h2 (pss_cons h3 (pss_one h4))))
theorem pss5 {e1 e2 e3 e4 e5 : Stmt} {t1 t2 t3 t4 t5 : TS} (h1 : PS X e1 t1) (h2 : PS X e2 t2) (h3 : PS X e3 t3) (h4 : PS X e4 t4) (h5 : PS X e5 t5) : PSs X [e1, e2, e3, e4, e5] (tSeq t1 (tSeq t2 (tSeq t3 (tSeq t4 t5)))) := (pss_cons h1 (pss_cons h2 (pss_cons h3 (pss_cons h4 (pss_one h5)))))
theorem pss7 {e1 e2 e3 e4 e5 e6 e7 : Stmt} {t1 t2 t3 t4 t5 t6 t7 : TS} (h1 : PS X e1 t1) (h2 : PS X e2 t2) (h3 : PS X e3 t3) (h4 : PS X e4 t4) (h5 : PS X e5 t5) (h6 : PS X e6 t6) (h7 : PS X e7 t7) : PSs X [e1, e2, e3, e4, e5, e6, e7] (tSeq t1 (tSeq t2 (tSeq t3 (tSeq t4 (tSeq t5 (tSeq t6 t7)))))) := (pss_cons h1 (pss_cons h2 (pss_cons h3 (pss_cons h4 (pss_cons h5 (pss_cons h6 (pss_one h7)))))))
theorem pss9 {e1 e2 e3 e4 e5 e6 e7 e8 e9 : Stmt} {t1 t2 t3 t4 t5 t6 t7 t8 t9 : TS} (h1 : PS X e1 t1) (h2 : PS X e2 t2) (h3 : PS X e3 t3) (h4 : PS X e4 t4) (h5 : PS X e5 t5) (h6 : PS X e6 t6) (h7 : PS X e7 t7) (h8 : PS X e8 t8) (h9 : PS X e9 t9) : PSs X [e1, e2, e3, e4, e5, e6, e7, e8, e9] (tSeq t1 (tSeq t2 (tSeq t3 (tSeq t4 (tSeq t5 (tSeq t6 (tSeq t7 (tSeq t8 t9)))))))) := (pss_cons h1 (pss_cons h2 (pss_cons h3 (pss_cons h4 (pss_cons h5 (pss_cons h6 (pss_cons h7 (pss_cons h8 (pss_one h9)))))))))
end
end L2
set_option Elab.async false
set_option linter.all false
set_option maxRecDepth 100000
set_option maxHeartbeats 4000000
namespace L2
open PySem PySem.Spec PyProof.Rows
section
variable {X : Cx} {pins : List (Addr × Obj)} {σ : St} {H : Hp} {s : Shared} {h' : Heap}
end
section
variable {X : Cx}
end
end L2
set_option Elab.async false
set_option linter.all false
set_option maxRecDepth 100000
set_option maxHeartbeats 4000000
namespace L2
open PySem PySem.Spec PyProof.Rows
section
variable {P : Program} {w : World} {H : Hp} {h : Heap} {a : Addr} {o : HO}
theorem ObjOk.there (x : ObjOk P w H h a o) : ∃ u, h.get? a = some u := by
  cases o with
  | lst xs => obtain ⟨_, _, _, _, e⟩ := x; exact ⟨_, e⟩
  | tup xs => obtain ⟨_, _, _, o, e, _⟩ := x; exact ⟨o, e⟩
  | dK kvs => obtain ⟨_, _, _, _, o, _, _, e, _⟩ := x; exact ⟨o, e⟩
  | dT kvs => obtain ⟨_, _, _, _, o, _, _, e, _⟩ := x; exact ⟨o, e⟩
  | set S n => obtain ⟨o, _, _, _, e, _⟩ := x; exact ⟨o, e⟩
  | ins C dx fs => obtain ⟨_, _, _, e, _⟩ := x; exact ⟨_, e⟩
  | own y => exact x
  | xd fs => obtain ⟨_, ⟨o, _, _, e, _⟩, _⟩ := x; exact ⟨o, e⟩
  | rng lo hi => obtain ⟨_, _, _, e⟩ := x; exact ⟨_, e⟩
  | frz ob u => exact ⟨ob, x.1⟩
  | tbl ps => exact ⟨_, x⟩
  | met f y => exact ⟨_, x⟩
  | ext φ => exact x.2.1
end
section
variable {P : Program} {w : World} {K : PySem.W.Frag} {mg : Str → Option Value} {base : Heap} {N : List Str} {qual : Str} {scope : Scope} {f : Addr} {cd : Value} {A : Around} {outer : List Env} {s₀ : Shared} {H₀ : Hp} {E : XK}
end
section
variable {K : PySem.W.Frag} {h : Heap} {C : Addr} {bmB : List Value} {newId : String}
end
section
variable {X : Cx} {C : Addr} {E : XK} {x : Str} {np cpos pos : Pos} {e : Expr} {es : List Expr} {ta : TA}
end
end L2
set_option Elab.async false
set_option linter.all false
set_option maxRecDepth 100000
set_option maxHeartbeats 4000000
namespace L2
open PySem PySem.Spec PyProof.Rows
structure XI (K : PySem.W.Frag) (D : Addr) : Prop where
  ga : PySem.W.findIn K (.ref D) "__getattribute__" = some (some (.builtin "BaseException.__getattribute__"))
  gn : PySem.W.findIn K (.ref D) "__getattr__" = some none
  cl : PySem.W.findIn K (.ref D) "__class__" = some (some (.builtin "object.__class__"))
  get : PySem.W.specialIn K (.builtin "object.__class__") "__get__" = some (some (.builtin "getset_descriptor.__get__"))
  tk : PySem.W.takesIn K (.builtin "object.__class__") = some true
  ob : PySem.W.mroIn K D (.type "object") = some true
  be : PySem.W.mroIn K D (.type "BaseException") = some true
theorem XI.cls {K : PySem.W.Frag} {D : Addr} (F : XI K D) : (PySem.W.clsIn K D).isSome = true := by
  have z := F.ob
  unfold PySem.W.mroIn at z
  cases q : PySem.W.clsIn K D with
  | none => rw [q] at z; cases z
  | some cd => rfl
def XAt (a D : Addr) (h : Heap) : Prop := ∃ o vs, h.get? a = some o ∧ o.cls = .ref D ∧ o.data = .fields vs
section
variable {prog : Program} {w : World} {A : Around} {E : Value → Shared → Prop} {s : Shared} {K : PySem.W.Frag} {a D : Addr}
theorem XAt.ty {M : Model} {h : Heap} (x : XAt a D h) : PySem.W.Looks M h (typeOf (.ref a)) (.ref D) := by
  obtain ⟨o, vs, e, c, _⟩ := x
  exact c ▸ (PySem.W.Looks.ld e).andThen .now
end
section
variable {X : Cx} {c : Value} {cv : V}
end
abbrev Cx.tin (X : Cx) (W : Value → Shared → Prop) (pn : List (Addr × Obj)) : Cx := { X with xe := W, pn := pn }
abbrev Cx.hin (X : Cx) (ea : Addr) (pn : List (Addr × Obj)) : Cx := { X with A := X.A.mark (some (.ref ea)), calm := false, pn := pn, xe := fun _ _ => False }
theorem Cx.Ok.tin {X : Cx} (ok : X.Ok) (W : Value → Shared → Prop) (pn : List (Addr × Obj)) : (X.tin W pn).Ok :=
  ⟨ok.mod, ok.kind, ok.glob, ok.blt, ok.above, ok.inj, ok.has, ok.cab, ok.hd, ok.frames, ok.stk, ok.exf, ok.bs, ok.bsz, ok.noex, ok.exfs, ok.funs, ok.frf⟩
theorem Cx.Ok.hin {X : Cx} (ok : X.Ok) (ea : Addr) (pn : List (Addr × Obj)) : (X.hin ea pn).Ok :=
  ⟨ok.mod, ok.kind, ok.glob, ok.blt, ok.above, ok.inj, ok.has, ok.cab, fun z => (by cases z), ok.frames, ok.stk, ok.exf, ok.bs, ok.bsz, ok.noex, ok.exfs, ok.funs, ok.frf⟩
section
variable {X : Cx} {pins pins1 pn : List (Addr × Obj)} {σ : St} {H : Hp} {s : Shared} {W : Value → Shared → Prop} {ea : Addr}
theorem Inv.tin (I : Inv X pins σ H s) (W : Value → Shared → Prop) : Inv (X.tin W (X.pn ++ pins)) [] σ H s :=
  ⟨I.ok.tin _ _, I.os, I.bare, I.base, I.loc, I.cell, I.free, I.freeC, fun p hp => I.pin p (by simpa using hp), I.hok, I.len⟩
theorem Inv.hin (I : Inv (X.tin W pn) pins σ H s) (ok : X.Ok) (ea : Addr) : Inv (X.hin ea pn) pins σ H s := ⟨ok.hin _ _, I.os, I.bare, I.base, I.loc, I.cell, I.free, I.freeC, I.pin, I.hok, I.len⟩
end
section
variable {X : Cx} {body suite : List Stmt} {b₀ : Stmt} {x nm : Str} {np hpos pos : Pos} {i : Nat} {C : Addr} {tb : XK → TS} {th : TS}
end
end L2
set_option Elab.async false
set_option linter.all false
set_option maxRecDepth 100000
set_option maxHeartbeats 4000000
namespace L2
open PySem PySem.Spec PyProof.Rows
theorem forIn_steps {α β : Type} (g : α → β → β) {f : α → β → Sem (ForInStep β)} : ∀ {l : List α} (c : β), (∀ x ∈ l, ∀ c, f x c = pure (.yield (g x c))) → forIn l c f = pure (l.foldl (fun c x => g x c) c)
  | [], c, _ => rfl
  | x :: l, c, h => by
    have hx := h x List.mem_cons_self c
    rw [List.forIn_cons, hx, pure_bind]
    exact forIn_steps g (g x c) fun y hy => h y (List.mem_cons_of_mem _ hy)
def addCell (env : Env) (x : Str × NameKind) (c : List (Str × Addr)) : List (Str × Addr) :=
  if x.2 == NameKind.free then (match env.cells.lookup x.1 with | some a => (x.1, a) :: c | none => c) else c
theorem addCells_sub {env : Env} : ∀ (l : List (Str × NameKind)) (acc : List (Str × Addr)), (∀ n c, acc.lookup n = some c → env.cells.lookup n = some c) →
    ∀ n c, (l.foldl (fun c x => addCell env x c) acc).lookup n = some c → env.cells.lookup n = some c
  | [], acc, h, n, c, e => h n c e
  | x :: l, acc, h, n, c, e => by
    refine addCells_sub l (addCell env x acc) (fun n c e => ?_) n c e
    unfold addCell at e
    split at e
    · split at e
      · rename_i a ha
        rw [List.lookup_cons] at e
        split at e
        · rename_i hb
          have hn : n = x.1 := by simpa using hb
          cases e
          rw [hn]; exact ha
        · exact h n c e
      · exact h n c e
    · exact h n c e
theorem addCells_has {env : Env} : ∀ (l : List (Str × NameKind)) (acc : List (Str × Addr)) (n : Str), ((∃ c, acc.lookup n = some c) ∨ ((n, NameKind.free) ∈ l ∧ ∃ c, env.cells.lookup n = some c)) →
    ∃ c, (l.foldl (fun c x => addCell env x c) acc).lookup n = some c
  | [], acc, n, h => by
    rcases h with h | ⟨h, _⟩
    · exact h
    · cases h
  | x :: l, acc, n, h => by
    refine addCells_has l (addCell env x acc) n ?_
    rcases h with ⟨c, h⟩ | ⟨h, c, hc⟩
    · left
      unfold addCell
      split
      · split
        · rw [List.lookup_cons]
          split
          · exact ⟨_, rfl⟩
          · exact ⟨c, h⟩
        · exact ⟨c, h⟩
      · exact ⟨c, h⟩
    · rcases List.mem_cons.mp h with e | h
      · left
        subst e
        unfold addCell
        have ef : (NameKind.free == NameKind.free) = true := rfl
        have en : (n == n) = true := by simp
        simp only [ef, if_true, hc, List.lookup_cons, en]
        exact ⟨c, rfl⟩
      · exact .inr ⟨h, c, hc⟩
theorem closure_of {scope : Scope} {env : Env} (hf : ∀ n, (n, NameKind.free) ∈ scope.names → ∃ c, env.cells.lookup n = some c) :
    ∃ cl, closureFor scope env = pure cl ∧ (∀ n c, cl.lookup n = some c → env.cells.lookup n = some c) ∧ ∀ n, (n, NameKind.free) ∈ scope.names → ∃ c, cl.lookup n = some c := by
  refine ⟨scope.names.foldl (fun c x => addCell env x c) [], ?_, addCells_sub _ _ (fun n c e => by simp at e), fun n h => addCells_has _ _ n (.inr ⟨h, hf n h⟩)⟩
  simp only [closureFor]
  rw [forIn_steps (addCell env) [] (fun x hx c => ?_)]
  · rfl
  · obtain ⟨n, kind⟩ := x
    by_cases hk : kind = .free
    · subst hk
      obtain ⟨a, ha⟩ := hf n hx
      have ef : (NameKind.free == NameKind.free) = true := rfl
      simp [cellOf, ha, addCell, ef]
    · have e : (kind == NameKind.free) = false := by simpa using hk
      simp [e, addCell]
theorem relabel_lookup (env : Env) (x : Str) : ∀ names : List (Str × NameKind),
    (names.map fun (n, k) => if (k == NameKind.free && env.scope.kind == .function && env.kindOf n == some .cell) then (n, NameKind.cell) else (n, k)).lookup x =
    (names.lookup x).map fun k => if (k == NameKind.free && env.scope.kind == .function && env.kindOf x == some .cell) then NameKind.cell else k
  | [] => rfl
  | (n, k) :: r => by
    have ih := relabel_lookup env x r
    rw [List.map_cons]
    by_cases e : x = n
    · subst e
      have ex : (x == x) = true := by simp
      by_cases c : (k == NameKind.free && env.scope.kind == .function && env.kindOf x == some .cell) = true
      · dsimp only
        rw [if_pos c, List.lookup_cons, ex, List.lookup_cons, ex]
        exact congrArg some (if_pos c).symm
      · dsimp only
        rw [if_neg c, List.lookup_cons, ex, List.lookup_cons, ex]
        exact congrArg some (if_neg c).symm
    · have e' : (x == n) = false := by simpa using e
      by_cases c : (k == NameKind.free && env.scope.kind == .function && env.kindOf n == some .cell) = true
      · dsimp only
        rw [if_pos c, List.lookup_cons, e', List.lookup_cons, e']
        exact ih
      · dsimp only
        rw [if_neg c, List.lookup_cons, e', List.lookup_cons, e']
        exact ih
structure CompScope (dsc : Scope) (N : List Str) (scope : Scope) (own : List Str) (ix : List Nat) : Prop where
  kind : scope.kind = .function
  nocell : ∀ y ∈ scope.names, y.2 ≠ NameKind.cell
  names : ∀ y ∈ scope.names, y.2 = NameKind.local → scope.names.lookup y.1 = some .local
  free : ∀ y ∈ scope.names, y.2 = NameKind.free → dsc.names.lookup y.1 = some .cell ∨ dsc.names.lookup y.1 = some .free
  ix : ∀ i ∈ ix, i < N.length ∧ scope.names.lookup (N.getD i "") = some .free
def Cx.comp (X : Cx) (scope : Scope) (own : List Str) (ix : List Nat) (cl : List (Str × Addr)) (C : Addr) (fp : List Addr) (s : Shared) (H : Hp) (xe : Value → Shared → Prop) : Cx :=
  { X with N := own ++ ix.map (fun i => X.N.getD i ""), s₀ := s, H₀ := H, env := compEnvC scope cl C X.env, outer := X.stack, ex := fp, fn := fun _ => false, pn := [], xe := xe }
theorem comp_K {X : Cx} {scope : Scope} {own : List Str} {ix : List Nat} {cl : List (Str × Addr)} {C : Addr} {fp : List Addr} {s : Shared} {H : Hp} {xe : Value → Shared → Prop} : (X.comp scope own ix cl C fp s H xe).K = X.K := rfl
def selC (k : Nat) (ix : List Nat) (σ : St) : St := List.replicate k none ++ ix.map (fun i => (σ[i]?).join)
section
variable {X : Cx} {pins : List (Addr × Obj)} {σ : St} {H H4 : Hp} {s s4 : Shared} {dsc scope : Scope} {own : List Str} {ix : List Nat} {cl : List (Str × Addr)} {C : Addr} {fp : List Addr} {xe : Value → Shared → Prop}
theorem comp_fp (I : Inv X pins σ H s) (hf : ∀ b ∈ fp, FpOk X pins H b) {b : Addr} (hb : b ∈ fp) : b ∉ frs X.stack := fun hs => by
  obtain ⟨_, f1, f2, _⟩ := hf b hb
  rcases List.mem_cons.mp (I.stkSub b hs) with e | e
  · exact f1 e
  · exact f2 e
theorem Inv.comp (I : Inv X pins σ H s) (hd : X.env.scope = dsc) (S : CompScope dsc X.N scope own ix) (cs : ∀ n c, cl.lookup n = some c → X.env.cells.lookup n = some c) (ch : ∀ n, (n, NameKind.free) ∈ scope.names → ∃ c, cl.lookup n = some c)
    (hf : ∀ b ∈ fp, FpOk X pins H b) (ho : ∀ b ∈ fp, ∃ o, s.heap.get? b = some o) (I4 : Inv X pins σ H4 s4) (un : Un (frs X.stack) fp H H4 s.heap s4.heap) (hC : s.heap.objs.size ≤ C) (hn : ∃ m, s4.heap.Ns C m) (hC0 : H4 C = none) :
    Inv (X.comp scope own ix cl C fp s H xe) [] (selC own.length ix σ) H4 s4 := by
  have kfree : ∀ x, scope.names.lookup x = some .free → (compEnvC scope cl C X.env).kindOf x = some .cell ∨ (compEnvC scope cl C X.env).kindOf x = some .free := fun x h => by
    have e : (compEnvC scope cl C X.env).kindOf x = _ := relabel_lookup X.env x scope.names
    rw [e, h, Option.map_some]
    split
    · exact .inl rfl
    · exact .inr rfl
  have kback : ∀ x, ((compEnvC scope cl C X.env).kindOf x = some .cell ∨ (compEnvC scope cl C X.env).kindOf x = some .free) → scope.names.lookup x = some .free := fun x h => by
    have e : (compEnvC scope cl C X.env).kindOf x = _ := relabel_lookup X.env x scope.names
    rw [e] at h
    cases q : scope.names.lookup x with
    | none => rw [q] at h; rcases h with h | h <;> cases h
    | some k =>
      have nc := S.nocell _ (PySem.mem_of_lookup q)
      rw [q, Option.map_some] at h
      cases k <;> first | rfl | exact absurd rfl nc | (rcases h with h | h <;> cases h)
  refine ⟨⟨I.ok.mod, S.kind, I.ok.glob, I.ok.blt, hC, fun x y c h1 h2 => I.ok.inj x y c (cs x c h1) (cs y c h2), fun x hx => ch x (PySem.mem_of_lookup (kback x hx)), fun x c h => (nomatch h), I.ok.hd, I.ok.frames, .inl rfl, fun b hb => ⟨fun z => ?_, fun x c e => (hf b hb).2.2.2.2.1 x c (cs x c e)⟩,
    I.bs, Nat.le_trans I.ok.bsz I.sz, fun b o e hb => ?_, fun b hb => comp_fp I hf hb, I.stack, I.stkFree⟩, I4.os.trans I.os.symm, I4.bare, un, ?_, fun x c e => I4.cell x c (cs x c e), hC0, fun x c e => I4.freeC x c (cs x c e), fun p hp => (nomatch hp), I4.hok, ?_⟩
  · obtain ⟨o, e⟩ := ho b hb
    have z' : b = C := z
    exact absurd (Nat.lt_of_lt_of_le (Heap.lt_size e) (by rw [z']; exact hC)) (Nat.lt_irrefl _)
  · rcases (hf b hb).2.2.2.1 with z | z
    · exact I.ok.noex b o e z
    · exact absurd (Nat.lt_of_lt_of_le (Heap.lt_size e) (Nat.le_trans I.ok.bsz z)) (Nat.lt_irrefl _)
  · obtain ⟨m, hm⟩ := hn
    refine ⟨m, hm, fun i x v e1 e2 _ => ?_⟩
    have e1' : (own ++ ix.map (fun i => X.N.getD i ""))[i]? = some x := e1
    unfold selC at e2
    by_cases hi : i < own.length
    · rw [List.getElem?_append_left (by rw [List.length_replicate]; exact hi), List.getElem?_replicate, if_pos hi] at e2
      cases e2
    · rw [List.getElem?_append_right (by rw [List.length_replicate]; omega), List.length_replicate, List.getElem?_map] at e2
      rw [List.getElem?_append_right (by omega), List.getElem?_map] at e1'
      cases q : ix[i - own.length]? with
      | none => rw [q] at e2; cases e2
      | some j =>
        rw [q] at e1' e2
        rw [Option.map_some, Option.some.injEq] at e1' e2
        obtain ⟨hj, hfr⟩ := S.ix j (List.mem_of_getElem? q)
        rw [e1'] at hfr
        have eN : X.N[j]? = some x := by
          rw [List.getElem?_eq_getElem hj, ← e1', List.getD_eq_getElem?_getD, List.getElem?_eq_getElem hj]; rfl
        have es : σ[j]? = some (some v) := by
          cases w : σ[j]? with
          | none => rw [w] at e2; cases e2
          | some o => rw [w] at e2; exact congrArg some e2
        have kd := S.free _ (PySem.mem_of_lookup hfr) rfl
        rw [← hd] at kd
        obtain ⟨m4, hm4, hl⟩ := I4.loc
        obtain ⟨u, r, l⟩ := hl j x v eN es (.inr kd)
        refine ⟨u, r, .inr ⟨kfree x hfr, ?_⟩⟩
        rcases l with ⟨k, _⟩ | ⟨_, c, ec, cell⟩
        · have k' : X.env.scope.names.lookup x = some .local := k
          rcases kd with z | z <;> (rw [k'] at z; cases z)
        · obtain ⟨c', ec'⟩ := ch x (PySem.mem_of_lookup hfr)
          have z := cs x c' ec'
          rw [ec] at z
          cases z
          exact ⟨c, ec', cell⟩
  · show (selC own.length ix σ).length = (own ++ ix.map (fun i => X.N.getD i "")).length
    unfold selC
    rw [List.length_append, List.length_append, List.length_replicate, List.length_map, List.length_map]
theorem Inv.outOf {pins' : List (Addr × Obj)} {σ' : St} {H' : Hp} {s' : Shared} (I : Inv X pins σ H s) (hf : ∀ b ∈ fp, FpOk X pins H b) (J : Inv (X.comp scope own ix cl C fp s H xe) pins' σ' H' s') : Inv X pins σ H' s' :=
  I.call' J.os J.base J.hok J.bare fun b hb => by
    obtain ⟨_, f1, _, f3, f4, f5⟩ := hf b hb
    exact ⟨f3, f1, f4, f5⟩
end
abbrev testsOf (ifs : List Expr) (env : Env) : Sem Bool := forIn ifs true fun c r => if r = true then do let ok ← isTrue c env (eval c env); pure (ForInStep.yield ok) else pure (ForInStep.yield r)
def PIf (X : Cx) (ifs : List Expr) (t : TT) : Prop :=
  ∀ (pins : List (Addr × Obj)) (s : Shared) (σ : St) (H : Hp) (Q : Bool → Hp → Prop), Inv X pins σ H s → t σ H Q → wpAny (model X.prog X.w) X.A (testsOf ifs X.env) (TP X pins σ Q) X.xe s
def tYes : TT := fun _ H Q => Q true H
theorem pif_nil {X : Cx} : PIf X [] tYes := fun _ _ _ H _ I h => wpAny_tests_nil ⟨H, I, h⟩
theorem pif_one {X : Cx} {c : Expr} {t : TT} (h : PT X c t) : PIf X [c] t := fun pins s σ H Q I q => wpAny_tests_one (h pins s σ H Q I q)
section
variable {prog : Program} {w : World} {A : Around} {R : Result → Shared → Prop} {s : Shared}
abbrev nb (prog : Program) (w : World) (A : Around) (env : Env) (R : Result → Shared → Prop) : Value → Shared → Prop := notedBy (model prog w) A env fun e s' => R (.error e) s'
theorem comp_loop {elt target iter : Expr} {ifs : List Expr} {scope : Scope} {pos : Pos} {it acc : Value} {env : Env} (I : Nat → Shared → Prop)
    (turn : ∀ n s, I n s → wpAny (model prog w) A (pyNext it) (fun r s₁ => (r = none ∧ R (.ok .next) s₁) ∨ ∃ v, r = some v ∧
      wpAny (model prog w) A (letOwnedTupleGo target it v) (fun _ s₂ => wpAny (model prog w) A (assign target env v) (fun _ s₃ => wpAny (model prog w) A (testsOf ifs env) (fun ok s₄ =>
        if ok = true then wpAny (model prog w) A (eval elt env) (fun x s₅ => wpAny (model prog w) A (call (.builtin "list.append") [acc, x]) (fun _ s₆ => ∃ m, m < n ∧ I m s₆) (nb prog w A env R) s₅) (nb prog w A env R) s₄
        else ∃ m, m < n ∧ I m s₄) (nb prog w A env R) s₃) (nb prog w A env R) s₂) (nb prog w A env R) s₁) (nb prog w A env R) s)
    (n : Nat) (h : I n s) : codeAny (model prog w) A (.compLoop (.ListComp elt [⟨target, iter, ifs, 0⟩] scope pos) 0 it acc env) R s := by
  refine codeAny_loop rfl I (fun n s hI => ?_) n h
  refine wpAny_noted ?_
  have e := compTurn_list elt target iter ifs scope pos it acc env
  show wpAny (model prog w) A (compTurn (.ListComp elt [⟨target, iter, ifs, 0⟩] scope pos) 0 it acc env) _ _ s
  rw [e]
  refine wpAny_bind (wpAny_standAt (wpAny_bind (thn (turn n s hI) fun r s₁ h₁ => ?_)))
  rcases h₁ with ⟨rfl, h₁⟩ | ⟨v, rfl, h₁⟩
  · exact wpAny_pure h₁
  · refine wpAny_bind (thn h₁ fun _ s₂ h₂ => wpAny_bind (thn h₂ fun _ s₃ h₃ => wpAny_bind (thn h₃ fun ok s₄ h₄ => ?_)))
    cases ok with
    | false => exact wpAny_pure ⟨rfl, h₄⟩
    | true =>
      refine wpAny_bind (wpAny_bind (thn h₄ fun x s₅ h₅ => wpAny_bind (thn h₅ fun _ s₆ h₆ => ?_)))
      exact wpAny_pure (wpAny_pure ⟨rfl, h₆⟩)
end
def tComp (k : Nat) (ix : List Nat) (wi : TI) (g : TG) (ti : TT) (te : TE) : TE := fun σ H Q => wi σ H fun J H1 => ∀ D, H1 D = none → ∃ W : Nat → Nat → Hp → Prop, (∃ m, W 0 m (upd H1 D (.lst []))) ∧ ∀ i m H2, W i m H2 →
  (J.stop i H2 ∧ Q (.ref D) H2) ∨ (J.go i H2 ∧ ∀ x H3, J.yld i H2 x H3 → g x (selC k ix σ) H3 fun σ4 H4 => ti σ4 H4 fun b H5 => if b = true then te σ4 H5 fun y H6 => ∃ ys, H6 D = some (.lst ys) ∧ ys.length < sizeLine ∧ ∃ m', m' < m ∧ W (i + 1) m' (upd H6 D (.lst (ys ++ [y])))
    else ∃ m', m' < m ∧ W (i + 1) m' H5)
section
variable {X : Cx} {pins : List (Addr × Obj)} {σ : St} {H : Hp} {s : Shared} {dsc scope : Scope} {own : List Str} {ix : List Nat} {elt tg iter : Expr} {ifs : List Expr} {pos : Pos} {wi : TI} {g : TG} {ti : TT} {te : TE}
def CompBody (X : Cx) (scope : Scope) (own : List Str) (ix : List Nat) (tg : Expr) (ifs : List Expr) (elt : Expr) (g : TG) (ti : TT) (te : TE) : Prop :=
  ∀ cl C fp s H xe, PG (X.comp scope own ix cl C fp s H xe) tg g ∧ PIf (X.comp scope own ix cl C fp s H xe) ifs ti ∧ PE (X.comp scope own ix cl C fp s H xe) elt te
theorem comp_run {use : Option (Value → Sem Unit)} {RQ : Value → Shared → Prop} {Q : VK} {p0 : Pos} (hc : X.calm = true) (hd : X.env.scope = dsc) (S : CompScope dsc X.N scope own ix) (hi : PI X tg iter wi) (hb : CompBody X scope own ix tg ifs elt g ti te)
    (hs : ∀ x, foldedSetIterable iter X.env x = pure x) (I : Inv X pins σ H s) (h : tComp own.length ix wi g ti te σ H Q)
    (fin : ∀ D C H' s', Inv X pins σ H' s' → FpOk X pins H' C → (∃ m, s'.heap.Ns C m) → Q (.ref D) H' → compPost (model X.prog X.w) X.A X.xe use RQ (.ref D) C (.ok .next) s') :
    wpAny (model X.prog X.w) X.A (comprehension (.ListComp elt [⟨tg, iter, ifs, 0⟩] scope pos) scope X.env p0 (newList []) false (eval iter X.env) use) RQ X.xe s := by
  obtain ⟨cl, hcl, cs, ch⟩ := closure_of (scope := scope) (env := X.env) fun n hn => I.ok.has n (by
    have z := S.free _ hn rfl
    rw [← hd] at z
    exact z)
  refine wpAny_comprehension_free rfl hs hcl S.kind S.names (thn (hi pins s σ H _ I h) fun v s1 h1 => thn h1 fun itv s2 h2 => ?_)
  obtain ⟨it, fp, tn, J, H2, e, I2, T, st2, f2, W⟩ := h2
  subst e
  have hD0 : H2 s2.heap.objs.size = none := I2.fresh
  obtain ⟨W, ⟨m0, w0⟩, turn⟩ := W _ hD0
  have I3 := I2.lnew (ys := []) (its := []) (t' := s2.toks) .nil (Nat.zero_le _)
  refine wpAny_newObj_type (wpAny_newFunctionEnv S.nocell (by intro y hy; cases hy) (fun h₁ hns₁ hsb₁ => ?_) S.kind)
  dsimp only at hns₁ hsb₁ ⊢
  generalize hH3 : s2.heap.push { cls := .type "list", dict := none, data := .seq ([] : List Value).toArray } = g3 at hns₁ hsb₁ ⊢
  have hC : g3.objs.size = s2.heap.objs.size + 1 := by rw [← hH3, Heap.size_push]
  have old3 : ∀ b o, g3.get? b = some o → h₁.get? b = some o := fun b o e => hsb₁.extBut b o (Nat.ne_of_lt (Heap.lt_size e)) (Heap.get?_push_of_some _ e)
  have old : ∀ b o, s2.heap.get? b = some o → h₁.get? b = some o := fun b o e => old3 b o (by rw [← hH3]; exact Heap.get?_push_of_some _ e)
  have I4 : Inv X pins σ (upd H2 s2.heap.objs.size (.lst [])) { s2 with heap := h₁, toks := s2.toks + 0 } := I3.kept (t' := s2.toks + 0) fun b o e => old3 b o (by rw [← hH3]; exact e)
  have fpo : ∀ b ∈ fp, ∃ o, s2.heap.get? b = some o := fun b hb => let ⟨o, e, _⟩ := T.obj _ _ st2 b hb; ⟨o, e⟩
  have hC0 : upd H2 s2.heap.objs.size (.lst []) g3.objs.size = none := by
    rw [upd_ne (by rw [hC]; exact Nat.succ_ne_self _)]
    exact I2.hok.fresh (by rw [hC]; exact Nat.le_succ _)
  have hCs : s2.heap.objs.size ≤ g3.objs.size := by rw [hC]; exact Nat.le_succ _
  -- the block's context, and how one comes into it again
  have into : ∀ {H' : Hp} {s' : Shared} {xe : Value → Shared → Prop}, Inv X pins σ H' s' → Un (frs X.stack) fp H2 H' s2.heap s'.heap → (∃ m, s'.heap.Ns g3.objs.size m) → H' g3.objs.size = none → Inv (X.comp scope own ix cl g3.objs.size fp s2 H2 xe) [] (selC own.length ix σ) H' s' :=
    fun I' un hn h0 => I2.comp hd S cs ch f2 fpo I' un hCs hn h0
  have stat : ∀ {H' : Hp} {xe : Value → Shared → Prop} {σ' : St} {s' : Shared}, Inv (X.comp scope own ix cl g3.objs.size fp s2 H2 xe) [] σ' H' s' → (∀ b ∈ fp, H' b = none) → ∀ b ∈ fp, FpOk (X.comp scope own ix cl g3.objs.size fp s2 H2 xe) [] H' b := fun {H' xe σ' s'} K hn b hb =>
    ⟨hn b hb, (K.ok.exf b hb).1, K.ok.exfs b hb, .inl hb, (K.ok.exf b hb).2, fun p hp => nomatch hp⟩
  have loop : ∀ s₃ : Shared, s₃ = { s2 with heap := h₁, toks := s2.toks + 0 } →
      codeAny (model X.prog X.w) X.A (.compLoop (.ListComp elt [⟨tg, iter, ifs, 0⟩] scope pos) 0 (.ref it) (.ref s2.heap.objs.size) (compEnvC scope cl g3.objs.size X.env)) (compPost (model X.prog X.w) X.A X.xe use RQ (.ref s2.heap.objs.size) g3.objs.size) s₃ := by
    rintro s₃ rfl
    generalize hxe : nb X.prog X.w X.A (compEnvC scope cl g3.objs.size X.env) (compPost (model X.prog X.w) X.A X.xe use RQ (.ref s2.heap.objs.size) g3.objs.size) = xe
    obtain ⟨hg, hif, hel⟩ := hb cl g3.objs.size fp s2 H2 xe
    refine comp_loop (fun n s' => ∃ i H', Inv (X.comp scope own ix cl g3.objs.size fp s2 H2 xe) [] (selC own.length ix σ) H' s' ∧ tn i s'.heap ∧ (∀ b ∈ fp, H' b = none) ∧ W i n H') ?_ m0
      ⟨0, _, into I4 (Un.laid old (Nat.le_refl _) hD0) ⟨_, hns₁⟩ hC0, T.keep _ _ _ st2 fun b hb o e => old b o e, fun b hb => ?_, w0⟩
    · rintro n s3 ⟨i, H3, K3, st3, fr3, w3⟩
      rw [hxe]
      rcases turn i n H3 w3 with ⟨stop, qn⟩ | ⟨go, step⟩
      · refine thn (T.done (X.comp scope own ix cl g3.objs.size fp s2 H2 xe) rfl rfl rfl hc i [] s3 _ H3 xe K3 (stat K3 fr3) st3 stop) fun r s4 ⟨hr, K4⟩ => .inl ⟨hr, ?_⟩
        obtain ⟨m, hm, _⟩ := K4.loc
        exact fin _ _ H3 s4 (I2.outOf f2 K4) (I2.fpOk hCs K4.free) ⟨m, hm⟩ qn
      · refine thn (T.item (X.comp scope own ix cl g3.objs.size fp s2 H2 xe) rfl rfl rfl hc i [] s3 _ H3 xe K3 (stat K3 fr3) st3 go) fun r s4 ⟨u, hr, h4⟩ => .inr ⟨u, hr, ?_⟩
        refine thn h4 fun _ s5 ⟨x, H5, K5, r5, y5, st5, fr5⟩ => ?_
        have K5' := K5.pinned (stat K5 fr5) (T.obj _ _ st5)
        refine thn (hg _ s5 _ H5 x u _ K5' r5 (step x H5 y5)) fun _ s6 ⟨σ6, H6, K6, q6⟩ => ?_
        refine thn (hif _ s6 σ6 H6 _ K6 q6) fun b s7 ⟨H7, K7, q7⟩ => ?_
        have again : ∀ {σ8 : St} {H8 : Hp} {s8 : Shared}, Inv (X.comp scope own ix cl g3.objs.size fp s2 H2 xe) ([] ++ pinsAt fp s5.heap) σ8 H8 s8 → (∃ m', m' < n ∧ W (i + 1) m' H8) → ∃ m, m < n ∧ ∃ i H', Inv (X.comp scope own ix cl g3.objs.size fp s2 H2 xe) [] (selC own.length ix σ) H' s8 ∧ tn i s8.heap ∧ (∀ b ∈ fp, H' b = none) ∧ W i m H' := fun {σ8 H8 s8} K8 ⟨m', hm, w8⟩ => by
          obtain ⟨m, hm8, _⟩ := K8.loc
          refine ⟨m', hm, i + 1, H8, into (I2.outOf f2 K8) K8.base ⟨m, hm8⟩ K8.free, T.keep _ _ _ st5 fun b hb o e => (K8.pin (b, o) (List.mem_append_right _ (List.mem_append_right _ (mem_pinsAt hb e)))).1, fun b hb => ?_, w8⟩
          obtain ⟨o, e, d⟩ := T.obj _ _ st5 b hb
          exact (K8.pin (b, o) (List.mem_append_right _ (List.mem_append_right _ (mem_pinsAt hb e)))).2.1
        cases b with
        | false => exact again K7 q7
        | true =>
          refine thn (hel _ s7 σ6 H7 _ K7 q7) fun v s8 ⟨y, H8, K8, r8, ys, e8, z8, q8⟩ => ?_
          refine thn (mt_append (X := X.comp scope own ix cl g3.objs.size fp s2 H2 xe) _ s8 σ6 H8 (.ref s2.heap.objs.size) [y] (.ref s2.heap.objs.size) [v] (fun _ H' => ∃ m', m' < n ∧ W (i + 1) m' H') K8 rfl (.cons r8 .nil) ⟨_, ys, y, rfl, rfl, e8, z8, q8⟩) ?_
          rintro u9 s9 ⟨v9, H9, K9, r9, q9⟩
          exact again K9 q9
    · have z := (f2 b hb).1
      obtain ⟨o, e⟩ := fpo b hb
      rw [upd_ne (Nat.ne_of_lt (Heap.lt_size e))]
      exact z
  exact codeAny_compStart_list (loop _ rfl) (T.self _ 0 _ _ _ (T.keep _ _ _ st2 fun b hb o e => old b o e) (loop _ rfl))
theorem pe_comp {N : List Str} (hc : X.calm = true) (hd : X.env.scope = dsc) (hN : X.N = N) (S' : CompScope dsc N scope own ix) (hi : PI X tg iter wi) (hb : CompBody X scope own ix tg ifs elt g ti te)
    (hs : ∀ x, foldedSetIterable iter X.env x = pure x := by intro _; rfl) : PE X (.ListComp elt [⟨tg, iter, ifs, 0⟩] scope pos) (tComp own.length ix wi g ti te) := by
  have S : CompScope dsc X.N scope own ix := by rw [hN]; exact S'
  intro pins s σ H Q I h
  rw [eval_ListComp]
  refine comp_run (use := none) hc hd S hi hb hs I h fun D C H' s' I' f' hn q => ?_
  obtain ⟨m, hm⟩ := hn
  obtain ⟨f0, f1, f2, f3, f4, f5⟩ := f'
  exact ⟨m, hm, fun h' sb => ⟨.ref D, H', I'.turned (t' := s'.toks) (fun b o hb e => (sb.2 b hb).trans e) f0 f1 f3 f4 f5, rfl, q⟩⟩
end
def CW (n : Nat) (Pv : Nat → List V → Hp → Prop) : Nat → Nat → Hp → Prop := fun i m H => m = n - i ∧ i ≤ n ∧ ∃ ys, Pv i ys H
abbrev CPut (n : Nat) (Pv : Nat → List V → Hp → Prop) (D : Addr) (i : Nat) (y : V) (H : Hp) : Prop := ∃ ys, H D = some (.lst ys) ∧ ys.length < sizeLine ∧ ∃ m', m' < n - i ∧ CW n Pv (i + 1) m' (upd H D (.lst (ys ++ [y])))
abbrev CSkip (n : Nat) (Pv : Nat → List V → Hp → Prop) (i : Nat) (H : Hp) : Prop := ∃ m', m' < n - i ∧ CW n Pv (i + 1) m' H
theorem cw_put {n i : Nat} {Pv : Nat → List V → Hp → Prop} {D : Addr} {y : V} {ys : List V} {H : Hp} (hi : i < n) (hD : H D = some (.lst ys)) (hz : ys.length < sizeLine) (p : Pv (i + 1) (ys ++ [y]) (upd H D (.lst (ys ++ [y])))) : CPut n Pv D i y H :=
  ⟨ys, hD, hz, n - (i + 1), by omega, rfl, hi, _, p⟩
theorem cw_skip {n i : Nat} {Pv : Nat → List V → Hp → Prop} {ys : List V} {H : Hp} (hi : i < n) (p : Pv (i + 1) ys H) : CSkip n Pv i H := ⟨n - (i + 1), by omega, rfl, hi, _, p⟩
def CompW (J : It) (D : Addr) (g : TG) (ti : TT) (te : TE) (σ' : St) (H : Hp) (Q : VK) : Prop :=
  ∃ W : Nat → Nat → Hp → Prop, (∃ m, W 0 m (upd H D (.lst []))) ∧ ∀ i m H2, W i m H2 →
    (J.stop i H2 ∧ Q (.ref D) H2) ∨ (J.go i H2 ∧ ∀ x H3, J.yld i H2 x H3 → g x σ' H3 fun σ4 H4 => ti σ4 H4 fun b H5 => if b = true then te σ4 H5 fun y H6 => ∃ ys, H6 D = some (.lst ys) ∧ ys.length < sizeLine ∧ ∃ m', m' < m ∧ W (i + 1) m' (upd H6 D (.lst (ys ++ [y])))
      else ∃ m', m' < m ∧ W (i + 1) m' H5)
theorem tComp_mk {k : Nat} {ix : List Nat} {wi : TI} {g : TG} {ti : TT} {te : TE} {σ : St} {H : Hp} {Q : VK} (h : wi σ H fun J H1 => ∀ D, H1 D = none → CompW J D g ti te (selC k ix σ) H1 Q) : tComp k ix wi g ti te σ H Q := h
theorem comp_by {J : It} {D : Addr} {g : TG} {ti : TT} {te : TE} {σ' : St} {H : Hp} {Q : VK} (n : Nat) (Pv : Nat → List V → Hp → Prop) (h0 : Pv 0 [] (upd H D (.lst []))) (hgo : ∀ i ys H, i < n → Pv i ys H → J.go i H) (hst : ∀ ys H, Pv n ys H → J.stop n H)
    (hs : ∀ i ys H x H3, i < n → Pv i ys H → J.yld i H x H3 → g x σ' H3 fun σ4 H4 => ti σ4 H4 fun b H5 => if b = true then te σ4 H5 fun y H6 => CPut n Pv D i y H6 else CSkip n Pv i H5)
    (hd : ∀ ys H, Pv n ys H → Q (.ref D) H) : CompW J D g ti te σ' H Q := by
  refine ⟨CW n Pv, ⟨n, rfl, Nat.zero_le _, [], h0⟩, ?_⟩
  rintro i m H2 ⟨rfl, hi, ys, p⟩
  by_cases hlt : i < n
  · exact .inr ⟨hgo i ys H2 hlt p, fun x H3 y => hs i ys H2 x H3 hlt p y⟩
  · have e : i = n := by omega
    subst e
    exact .inl ⟨hst ys H2 p, hd ys H2 p⟩
theorem comp_list {K : PySem.W.Frag} {a D : Addr} {xs : List V} {g : TG} {ti : TT} {te : TE} {σ' : St} {H : Hp} {Q : VK} (Pv : Nat → List V → Hp → Prop) (h0 : Pv 0 [] (upd H D (.lst []))) (hl : ∀ i ys H, Pv i ys H → SqL K H a xs)
    (hs : ∀ i ys H x, i < xs.length → xs[i]? = some x → Pv i ys H → g x σ' H fun σ4 H4 => ti σ4 H4 fun b H5 => if b = true then te σ4 H5 fun y H6 => CPut xs.length Pv D i y H6 else CSkip xs.length Pv i H5)
    (hd : ∀ ys H, Pv xs.length ys H → Q (.ref D) H) : CompW (Itl K a) D g ti te σ' H Q := by
  refine comp_by xs.length Pv h0 (fun i ys H hi p => ⟨xs, xs[i], hl i ys H p, by simp [hi]⟩) (fun ys H p => ⟨xs, hl _ ys H p, Nat.le_refl _⟩) (fun i ys H x H3 hi p y => ?_) hd
  obtain ⟨e, y⟩ := y
  subst e
  exact hs i ys _ x hi (y xs (hl i ys _ p)) p
end L2
set_option Elab.async false
set_option linter.all false
set_option maxRecDepth 100000
set_option maxHeartbeats 4000000
namespace L2
open PySem PySem.Spec PyProof.Rows
mutual
def RdD (K : PySem.W.Frag) (H : Hp) : PyData → V → Prop
  | .none, v => v = .non
  | .bool b, v => v = .bl b
  | .int i, v => v = .int i
  | .str x, v => v = .str x
  | .list ds, v => ∃ p xs, v = .ref p ∧ SqL K H p xs ∧ RdDs K H ds xs
  | .tuple ds, v => ∃ p xs, v = .ref p ∧ SqT K H p xs ∧ RdDs K H ds xs
  | .dict _, _ => False
def RdDs (K : PySem.W.Frag) (H : Hp) : List PyData → List V → Prop
  | [], xs => xs = []
  | d :: ds, xs => ∃ x r, xs = x :: r ∧ RdD K H d x ∧ RdDs K H ds r
end
section
variable {X : Cx} {pins : List (Addr × Obj)} {σ : St} {H : Hp} {s : Shared}
mutual
theorem reads_of (I : Inv X pins σ H s) : ∀ (d : PyData) (v : V) (u : Value), RdD X.K H d v → RelV v u → ∃ as, Reads s.heap u d as
  | .none, v, u, h, r => by
    rw [RdD] at h; subst h; cases r; exact ⟨_, .none⟩
  | .bool b, v, u, h, r => by
    rw [RdD] at h; subst h; cases r; exact ⟨_, .bool b⟩
  | .int i, v, u, h, r => by
    rw [RdD] at h; subst h; obtain ⟨t, rfl⟩ := r; exact ⟨_, .int i t⟩
  | .str x, v, u, h, r => by
    rw [RdD] at h; subst h; obtain ⟨t, rfl⟩ := r; exact ⟨_, .str x t⟩
  | .list ds, v, u, h, r => by
    rw [RdD] at h
    obtain ⟨p, xs, rfl, hq, hs⟩ := h
    cases r
    obtain ⟨its, rv, pl, hz⟩ := I.list hq
    obtain ⟨o, ho, hc, n, hd⟩ := pl.isList
    obtain ⟨as, ra⟩ := reads_ofs I ds xs its hs rv
    exact ⟨_, reads_list_at ho hc hd (by simpa using ra)⟩
  | .tuple ds, v, u, h, r => by
    rw [RdD] at h
    obtain ⟨p, xs, rfl, hq, hs⟩ := h
    cases r
    obtain ⟨its, rv, pl, hz⟩ := I.tuple hq
    obtain ⟨o, ho, hc, n, hd⟩ := pl
    obtain ⟨as, ra⟩ := reads_ofs I ds xs its hs rv
    exact ⟨_, reads_tuple_at ho hc hd (by simpa using ra)⟩
  | .dict kvs, v, u, h, r => by
    rw [RdD] at h; exact h.elim
theorem reads_ofs (I : Inv X pins σ H s) : ∀ (ds : List PyData) (xs : List V) (us : List Value), RdDs X.K H ds xs → Vals xs us → ∃ as, ReadsAll s.heap us ds as
  | [], xs, us, h, r => by
    rw [RdDs] at h; subst h; cases r; exact ⟨_, .nil⟩
  | d :: ds, xs, us, h, r => by
    rw [RdDs] at h
    obtain ⟨x, xr, rfl, hx, hr⟩ := h
    cases r with
    | cons r1 r2 =>
      obtain ⟨as, ra⟩ := reads_of I d _ _ hx r1
      obtain ⟨bs, rb⟩ := reads_ofs I ds _ _ hr r2
      exact ⟨_, .cons ra rb⟩
end
end
def rEqD (K : PySem.W.Frag) : R2 := fun x y H Q => ∃ d e, RdD K H d x ∧ RdD K H e y ∧ SeqAt.shaped d = true ∧ SeqAt.shaped e = true ∧ Q (.bl (PyData.eqv d e)) H
def rNeD (K : PySem.W.Frag) : R2 := fun x y H Q => ∃ d e, RdD K H d x ∧ RdD K H e y ∧ SeqAt.shaped d = true ∧ SeqAt.shaped e = true ∧ Q (.bl (!PyData.eqv d e)) H
theorem hu64 {A : Around} {k : Nat} (hr : Room k A) : A.units + 64 < cLine := by have := hr.un; omega
section
variable {X : Cx}
theorem op_eqD (hu : X.A.units + 64 < cLine) : OpR X (compareOp .Eq) (rEqD X.K) := by
  intro pins s σ H x y v u Q I rx ry h
  obtain ⟨d, e, hd, he, sd, se, q⟩ := h
  obtain ⟨as, ra⟩ := reads_of I d x v hd rx
  obtain ⟨bs, rb⟩ := reads_of I e y u he ry
  exact eq_dataH ra rb sd se hu ⟨.bl (PyData.eqv d e), H, I, rfl, q⟩
theorem op_neD (hu : X.A.units + 64 < cLine) : OpR X (compareOp .NotEq) (rNeD X.K) := by
  intro pins s σ H x y v u Q I rx ry h
  obtain ⟨d, e, hd, he, sd, se, q⟩ := h
  obtain ⟨as, ra⟩ := reads_of I d x v hd rx
  obtain ⟨bs, rb⟩ := reads_of I e y u he ry
  exact ne_dataH ra rb sd se hu ⟨.bl (!PyData.eqv d e), H, I, rfl, q⟩
theorem op_sub_bb : OpR X (binaryOp .Sub) (fun x y H Q => ∃ i k, x = .bl i ∧ y = .bl k ∧ Q (.int (b2i i - b2i k)) H) := by
  intro pins s σ H x y v u Q I rx ry h
  obtain ⟨i, k, rfl, rfl, q⟩ := h
  cases rx
  cases ry
  exact sub_bool ⟨.int (b2i i - b2i k), H, I.tok _, ⟨_, rfl⟩, q⟩
end
end L2
set_option Elab.async false
set_option linter.all false
set_option maxRecDepth 100000
set_option maxHeartbeats 4000000
namespace L2
open PySem PySem.Spec PyProof.Rows
section
variable {X : Cx}
theorem IxR.imp {r r' : R2} (h : IxR X r) (i : ∀ x y H Q, r' x y H Q → r x y H Q) : IxR X r' := fun value slice pins s σ H x y v u Q I rx ry q hs => h value slice pins s σ H x y v u Q I rx ry (i x y H Q q) hs
theorem CallR.imp {f : Value} {r r' : List V → Hp → VK → Prop} (h : CallR X f r) (i : ∀ xs H Q, r' xs H Q → r xs H Q) : CallR X f r' := fun pins s σ H xs us Q I rv q => h pins s σ H xs us Q I rv (i xs H Q q)
theorem OpR.imp {f : Value → Value → Sem Value} {r r' : R2} (h : OpR X f r) (i : ∀ x y H Q, r' x y H Q → r x y H Q) : OpR X f r' := fun pins s σ H x y v u Q I rx ry q => h pins s σ H x y v u Q I rx ry (i x y H Q q)
def rIxTH : R2 := fun x y H Q => ∃ p xs i v, x = .ref p ∧ y = .int i ∧ H p = some (.tup xs) ∧ atI xs i = some v ∧ Q v H
def rIxLH : R2 := fun x y H Q => ∃ p xs i v, x = .ref p ∧ y = .int i ∧ H p = some (.lst xs) ∧ atI xs i = some v ∧ Q v H
theorem ix_tupH : IxR X rIxTH := ix_tup.imp fun x y H Q ⟨p, xs, i, v, e1, e2, h, e3, q⟩ => ⟨p, xs, i, v, e1, e2, .of h, e3, q⟩
theorem ix_listH : IxR X rIxLH := ix_list.imp fun x y H Q ⟨p, xs, i, v, e1, e2, h, e3, q⟩ => ⟨p, xs, i, v, e1, e2, .of h, e3, q⟩
def rLenH : List V → Hp → VK → Prop := fun xs H Q => ∃ p ys, xs = [.ref p] ∧ (H p = some (.lst ys) ∨ H p = some (.tup ys)) ∧ Q (.int ys.length) H
theorem call_lenH : CallR X (.builtin "len") rLenH := call_len_seq.imp fun xs H Q ⟨p, ys, e, h, q⟩ => ⟨p, ys, e, h.imp .of .of, q⟩
def tyF (H : Hp) (x : V) : Option String := match x with
  | .non => some "NoneType"
  | .bl _ => some "bool"
  | .int _ => some "int"
  | .str _ => some "str"
  | .ref p => match H p with
    | some (.lst _) => some "list"
    | some (.tup _) => some "tuple"
    | _ => none
  | _ => none
theorem tyF_tyN {K : PySem.W.Frag} {H : Hp} {x : V} {T : String} (h : tyF H x = some T) : tyN K H x T := by
  cases x with
  | non => exact (Option.some.inj h).symm
  | bl b => exact (Option.some.inj h).symm
  | int i => exact (Option.some.inj h).symm
  | str z => exact (Option.some.inj h).symm
  | ref p =>
    unfold tyF at h
    dsimp only at h
    cases q : H p with
    | none => rw [q] at h; cases h
    | some o =>
      rw [q] at h
      cases o with
      | lst xs => exact .inl ⟨(Option.some.inj h).symm, xs, .of q⟩
      | tup xs => exact .inr (.inl ⟨(Option.some.inj h).symm, xs, .of q⟩)
      | _ => cases h
  | _ => cases h
def rIsiF (T : String) : List V → Hp → VK → Prop := fun xs H Q => ∃ x Tx, xs = [x, .ty T] ∧ tyF H x = some Tx ∧ Q (.bl (isiB Tx T)) H
theorem isiF {T : String} (h : CallR X (.builtin "isinstance") (rIsi X.K T)) : CallR X (.builtin "isinstance") (rIsiF T) := h.imp fun xs H Q ⟨x, Tx, e, t, q⟩ => ⟨x, Tx, e, tyF_tyN t, q⟩
end
theorem tyF_lst {H : Hp} {p : Addr} {xs : List V} (h : H p = some (.lst xs)) : tyF H (.ref p) = some "list" := by unfold tyF; dsimp only; rw [h]
theorem tyF_non {H : Hp} : tyF H .non = some "NoneType" := rfl
theorem tyF_bl {H : Hp} {b : Bool} : tyF H (.bl b) = some "bool" := rfl
theorem tyF_int {H : Hp} {i : Int} : tyF H (.int i) = some "int" := rfl
theorem tyF_str {H : Hp} {z : Str} : tyF H (.str z) = some "str" := rfl
theorem at0 {α : Type} {x : α} {r : List α} : atI (x :: r) 0 = some x := atI_nat (j := 0) rfl
theorem at1 {α : Type} {x y : α} {r : List α} : atI (x :: y :: r) 1 = some y := atI_nat (j := 1) rfl
theorem at2 {α : Type} {x y z : α} {r : List α} : atI (x :: y :: z :: r) 2 = some z := atI_nat (j := 2) rfl
theorem at3 {α : Type} {x y z t : α} {r : List α} : atI (x :: y :: z :: t :: r) 3 = some t := atI_nat (j := 3) rfl
theorem at4 {α : Type} {x y z t u : α} {r : List α} : atI (x :: y :: z :: t :: u :: r) 4 = some u := atI_nat (j := 4) rfl
theorem at5 {α : Type} {x y z t u v : α} {r : List α} : atI (x :: y :: z :: t :: u :: v :: r) 5 = some v := atI_nat (j := 5) rfl
theorem at6 {α : Type} {x y z t u v w : α} {r : List α} : atI (x :: y :: z :: t :: u :: v :: w :: r) 6 = some w := atI_nat (j := 6) rfl
theorem at7 {α : Type} {x y z t u v w x' : α} {r : List α} : atI (x :: y :: z :: t :: u :: v :: w :: x' :: r) 7 = some x' := atI_nat (j := 7) rfl
theorem at8 {α : Type} {x y z t u v w x' y' : α} {r : List α} : atI (x :: y :: z :: t :: u :: v :: w :: x' :: y' :: r) 8 = some y' := atI_nat (j := 8) rfl
theorem same_put {H H' : Hp} {D : Addr} {o : HO} (g : Same H H') (h : H D = none) : Same H (upd H' D o) := fun b u q => by
  rw [upd_ne (ne_of_none q h)]
  exact g b u q
end L2
set_option Elab.async false
set_option linter.all false
set_option maxRecDepth 100000
set_option maxHeartbeats 4000000
namespace L2
open PySem PySem.Spec PyProof.Rows
section
variable {X : Cx}
theorem SlR.imp {r r' : V → Option Int → Option Int → Hp → VK → Prop} (h : SlR X r) (i : ∀ x lo hi H Q, r' x lo hi H Q → r x lo hi H Q) : SlR X r' := fun pins s σ H x v vl vu lo hi sl Q I rx hs pl pu q => h pins s σ H x v vl vu lo hi sl Q I rx hs pl pu (i x lo hi H Q q)
def rSlH : V → Option Int → Option Int → Hp → VK → Prop := fun x lo hi H Q => ∃ a xs, x = .ref a ∧ H a = some (.lst xs) ∧ ∀ p, H p = none → Q (.ref p) (upd H p (.lst (cutV xs lo hi)))
theorem sl_listH : SlR X rSlH := sl_list.imp fun x lo hi H Q ⟨a, xs, e, h, q⟩ => ⟨a, xs, e, .of h, q⟩
def rListH : List V → Hp → VK → Prop := fun xs H Q => ∃ p ys, xs = [.ref p] ∧ (H p = some (.lst ys) ∨ H p = some (.tup ys)) ∧ ∀ l, H l = none → Q (.ref l) (upd H l (.lst ys))
theorem call_listH : CallR X (.type "list") rListH := call_list_of.imp fun xs H Q ⟨p, ys, e, h, q⟩ => ⟨p, ys, e, h.imp .of .of, q⟩
def rIntB : List V → Hp → VK → Prop := fun xs H Q => ∃ k, xs = [.bl k] ∧ Q (.int (if k = true then 1 else 0)) H
theorem tyV_of {K : PySem.W.Frag} {H : Hp} {p : Addr} {xs : List V} (h : H p = some (.lst xs)) : tyV K "list" (.ref p) H := .inl ⟨rfl, xs, .of h⟩
theorem bt_max : bootBuiltins "max" = some (.builtin "max") := by decide +kernel
end
section
variable {prog : Program} {w : World} {A : Around} {E : Value → Shared → Prop}
end
section
variable {X : Cx} {pos p2 : Pos}
end
end L2
set_option Elab.async false
set_option linter.all false
set_option maxRecDepth 100000
set_option maxHeartbeats 4000000
namespace L2
open PySem PySem.Spec PyProof.Rows
def ForW (J : It) (g : TG) (tb : TS) (D : Ends) (σ : St) (H : Hp) : Prop := ∃ W : Nat → Nat → St → Hp → Prop, (∃ m, W 0 m σ H) ∧ ∀ i m σ H, W i m σ H →
  (J.stop i H ∧ D.nx σ H) ∨ (J.go i H ∧ ∃ N : St → Hp → Prop, (∀ σ' H', N σ' H' → ∃ m', m' < m ∧ W (i + 1) m' σ' H') ∧ ∀ x H', J.yld i H x H' → g x σ H' fun σ2 H2 => tb { D with nx := N, ct := N, bk := D.nx } σ2 H2)
theorem tFor_mk {wi : TI} {g : TG} {tb : TS} {D : Ends} {σ : St} {H : Hp} (h : wi σ H fun J H1 => ForW J g tb D σ H1) : tFor wi g tb D σ H := h
theorem forW_list {K : PySem.W.Frag} {a : Addr} {xs : List V} {g : TG} {tb : TS} {D : Ends} {σ : St} {H : Hp} (Pv : Nat → St → Hp → Prop) (h0 : Pv 0 σ H) (hl : ∀ i σ H, i ≤ xs.length → Pv i σ H → SqL K H a xs)
    (hs : ∀ i x σ H, xs[i]? = some x → Pv i σ H → g x σ H fun σ2 H2 => tb { D with nx := Pv (i + 1), ct := Pv (i + 1), bk := D.nx } σ2 H2) (hd : ∀ σ H, Pv xs.length σ H → D.nx σ H) : ForW (Itl K a) g tb D σ H := for_list Pv h0 hl hs hd
section
open PySem.W
variable {M : Model} {K : PySem.W.Frag}
end
section
variable {X : Cx} {body suite : List Stmt} {b₀ : Stmt} {x nm : Str} {np hpos pos : Pos} {i : Nat} {C : Addr} {tb : XK → TS} {th : TS}
end
end L2
set_option Elab.async false
set_option linter.all false
set_option maxRecDepth 100000
set_option maxHeartbeats 4000000
namespace L2
open PySem PySem.Spec PyProof.Rows
section
variable {X : Cx}
end
end L2
set_option Elab.async false
set_option linter.all false
set_option maxRecDepth 100000
set_option maxHeartbeats 4000000
namespace L2
open PySem PySem.Spec PyProof.Rows
section
open PySem.SeqAt
open PySem.AutoSeq1 (wpAny_loadPart')
open PySem.MeetsSeq PySem.MeetsSeq2 PySem.MeetsSeq3
end
section
variable {X : Cx}
end
section
variable {X : Cx} {pos : Pos}
def gTupH (n : Nat) (t : TGs) : TG := fun v σ H Q => ∃ a xs, v = .ref a ∧ H a = some (.tup xs) ∧ xs.length = n ∧ t xs σ H Q
end
end L2
set_option Elab.async false
set_option linter.all false
set_option maxRecDepth 100000
set_option maxHeartbeats 4000000
namespace L2
open PySem PySem.Spec PyProof.Rows
section
variable {prog : Program} {w : World} {A : Around} {E : Value → Shared → Prop} {s : Shared}
end
section
variable {prog : Program} {w : World} {A : Around} {E : Value → Shared → Prop} {s : Shared}
end
section
variable {X : Cx}
end
section
variable {X : Cx}
end
end L2
set_option Elab.async false
set_option linter.all false
set_option maxRecDepth 100000
set_option maxHeartbeats 4000000
namespace L2
open PySem PySem.Spec PyProof.Rows
open PySem.Builtin PySem.Builtin.Str
section
variable {X : Cx}
end
section
variable {X : Cx} {tg : Expr}
end
end L2
set_option Elab.async false
set_option linter.all false
set_option maxRecDepth 100000
set_option maxHeartbeats 4000000
namespace L2
open PySem PySem.Spec PyProof.Rows
section
variable {X : Cx}
end
section
variable {P : Program} {w : World} {K : PySem.W.Frag} {mg : Str → Option Value} {base : Heap} {N : List Str} {qual : Str} {scope : Scope} {f : Addr} {cd : Value} {A : Around} {outer : List Env} {s₀ : Shared} {H₀ : Hp} {E : XK}
end
end L2
set_option Elab.async false
set_option linter.all false
set_option maxRecDepth 100000
set_option maxHeartbeats 4000000
namespace L2
open PySem PySem.Spec PyProof.Rows
open PySem.W (KasT kas_asc kas_desc kas_rev kas_tail3 kas_descPart kas_count kas_place kas_bin kas_sort kas_ask kas_item)
def ansT {α : Type} (ans : Nat → Nat → Bool) : KasT α → α
  | .ret a => a
  | .ask i j k => ansT ans (k (ans i j))
def Asks {α : Type} (n : Nat) (R : α → Prop) : KasT α → Prop
  | .ret a => R a
  | .ask i j k => i < n ∧ j < n ∧ ∀ b, Asks n R (k b)
theorem Asks.bind {α β : Type} {n : Nat} {R : α → Prop} {S : β → Prop} {f : α → KasT β} : ∀ {t : KasT α}, Asks n R t → (∀ a, R a → Asks n S (f a)) → Asks n S (t.bind f)
  | .ret a, h, k => k a h
  | .ask i j g, h, k => ⟨h.1, h.2.1, fun b => Asks.bind (h.2.2 b) k⟩
theorem Asks.ends {α : Type} {n : Nat} {R : α → Prop} {ans : Nat → Nat → Bool} : ∀ {t : KasT α}, Asks n R t → R (ansT ans t)
  | .ret _, h => h
  | .ask i j g, h => Asks.ends (n := n) (t := g (ans i j)) (h.2.2 (ans i j))
theorem Asks.wp {α : Type} {n : Nat} {R : α → Prop} {ans : Nat → Nat → Bool} {cmp : Nat → Nat → (Bool → Shared → Prop) → Shared → Prop} {s : Shared} {Q : α → Shared → Prop} (hc : ∀ i j C, i < n → j < n → C (ans i j) s → cmp i j C s) :
    ∀ {t : KasT α}, Asks n R t → Q (ansT ans t) s → t.kasWp cmp Q s
  | .ret _, _, q => q
  | .ask i j g, h, q => hc i j _ h.1 h.2.1 (Asks.wp (n := n) (t := g (ans i j)) hc (h.2.2 (ans i j)) q)
def Ord (n : Nat) (p : Array Nat) : Prop := p.toList.Perm (List.range n)
theorem Ord.get {n : Nat} {p : Array Nat} (h : Ord n p) (hn : 0 < n) (i : Nat) : p.getD i 0 < n := by
  by_cases hi : i < p.size
  · have e : p.getD i 0 = p[i] := by simp [Array.getD, hi]
    rw [e]
    exact List.mem_range.mp (h.mem_iff.mp (by simp))
  · have e : p.getD i 0 = 0 := by simp [Array.getD, hi]
    rw [e]
    exact hn
theorem Ord.of {n : Nat} {p q : Array Nat} (h : Ord n p) (e : q.Perm p) : Ord n q := (Array.perm_iff_toList_perm.mp e).trans h
theorem Ord.rev {n : Nat} {p : Array Nat} (h : Ord n p) (i j : Nat) : Ord n (kas_rev p i j) := h.of (mirror_perm _ _ _ _)
theorem asks_asc {n : Nat} {p : Array Nat} (h : Ord n p) (hn : 0 < n) : ∀ (f m : Nat), Asks n (fun _ => True) (kas_asc p f m)
  | 0, _ => trivial
  | f + 1, m => ⟨h.get hn _, h.get hn _, fun b => by
    cases b with
    | true => dsimp only; rw [if_pos rfl]; trivial
    | false => dsimp only; rw [if_neg (by decide)]; exact asks_asc h hn f (m + 1)⟩
theorem asks_desc {n : Nat} (hn : 0 < n) : ∀ (f : Nat) {p : Array Nat} (m q : Nat), Ord n p → Asks n (fun r => Ord n r.1) (kas_desc f p m q)
  | 0, _, _, _, h => h
  | f + 1, p, m, q, h => ⟨h.get hn _, h.get hn _, fun b => by
    cases b with
    | true =>
      dsimp only
      rw [if_pos rfl]
      by_cases z : q > 0
      · rw [if_pos z]; exact asks_desc hn f _ _ (h.rev _ _)
      · rw [if_neg z]; exact asks_desc hn f _ _ h
    | false =>
      dsimp only
      rw [if_neg (by decide)]
      refine ⟨h.get hn _, h.get hn _, fun d => ?_⟩
      cases d with
      | true => dsimp only; rw [if_pos rfl]; exact h
      | false => dsimp only; rw [if_neg (by decide)]; exact asks_desc hn f _ _ h⟩
theorem asks_tail3 {n a b : Nat} {p : Array Nat} (hn : 0 < n) (h : Ord n p) : Asks n (fun r => Ord n r.2) (kas_tail3 a b p) :=
  Asks.bind (asks_asc (h.rev _ _) hn _ _) fun _ _ => h.rev _ _
theorem asks_descPart {n a b : Nat} {p : Array Nat} (hn : 0 < n) (h : Ord n p) : Asks n (fun r => Ord n r.2) (kas_descPart a b p) :=
  Asks.bind (asks_desc hn _ _ _ h) fun r hr => by
    by_cases z : r.2.2 > 0
    · rw [if_pos z]; exact asks_tail3 hn (hr.rev _ _)
    · rw [if_neg z]; exact asks_tail3 hn hr
theorem asks_count {n b : Nat} {p : Array Nat} (hn : 0 < n) (h : Ord n p) : Asks n (fun r => Ord n r.2) (kas_count b p) :=
  Asks.bind (asks_asc h hn _ _) fun m _ => by
    by_cases z : (m == b) = true
    · rw [if_pos z]; exact h
    · rw [if_neg z]
      by_cases y : m > 1
      · rw [if_pos y]
        refine ⟨h.get hn _, h.get hn _, fun c => ?_⟩
        cases c with
        | true => dsimp only; rw [if_pos rfl]; exact h
        | false => dsimp only; rw [if_neg (by decide)]; exact asks_descPart hn (h.rev _ _)
      · rw [if_neg y]; exact asks_descPart hn h
theorem asks_place {n : Nat} {p : Array Nat} (hn : 0 < n) (h : Ord n p) (k : Nat) : ∀ (f l r : Nat), Asks n (fun _ => True) (kas_place p k f l r)
  | 0, _, _ => trivial
  | f + 1, l, r => by
    unfold kas_place
    by_cases z : l ≥ r
    · rw [if_pos z]; trivial
    · rw [if_neg z]
      refine ⟨h.get hn _, h.get hn _, fun c => ?_⟩
      cases c with
      | true => dsimp only; rw [if_pos rfl]; exact asks_place hn h k f _ _
      | false => dsimp only; rw [if_neg (by decide)]; exact asks_place hn h k f _ _
theorem asks_bin {n : Nat} (hn : 0 < n) : ∀ (f : Nat) {p : Array Nat} (k : Nat), Ord n p → Asks n (Ord n) (kas_bin f p k)
  | 0, _, _, h => h
  | f + 1, p, k, h => Asks.bind (asks_place hn h k _ _ _) fun l _ => asks_bin hn f (k + 1) (h.of (bubble_perm _ _ _))
theorem asks_sort {n : Nat} (hn : 0 < n) : Asks n (Ord n) (kas_sort n) :=
  Asks.bind (asks_count hn (by unfold Ord; simp)) fun r hr => by
    by_cases z : r.1 < n
    · rw [if_pos z]; exact asks_bin hn _ _ hr
    · rw [if_neg z]; exact hr
def Keeps (g h : Heap) : Prop := ∀ b o, g.get? b = some o → h.get? b = some o
theorem Keeps.push {g h : Heap} (k : Keeps g h) (o : Obj) : Keeps g (h.push o) := fun b x e => Heap.get?_push_of_some _ (k b x e)
theorem Keeps.upd {g h : Heap} {a : Addr} {f : Obj → Obj} (k : Keeps g h) (ha : g.objs.size ≤ a) : Keeps g (h.update a f) := fun b x e => by
  rw [Heap.get?_update_ne _ _ _ _ (Nat.ne_of_lt (Nat.lt_of_lt_of_le (Heap.lt_size e) ha))]
  exact k b x e
theorem range_getD (vs : List Value) : ((List.range vs.length).map fun i => vs.getD i Value.none) = vs := by
  refine List.ext_getElem (by simp) fun i h1 h2 => ?_
  have hi : i < vs.length := h2
  simp [hi]
section
variable {prog : Program} {w : World} {A : Around} {E : Value → Shared → Prop} {s : Shared} {vs : List Value} {κ : SortKind} {ans : Nat → Nat → Bool} {g : Heap}
end
end L2
set_option Elab.async false
set_option linter.all false
set_option maxRecDepth 100000
set_option maxHeartbeats 4000000
namespace L2
open PySem PySem.Spec PyProof.Rows
open PySem.W (KasT kas_sort kas_ask)
section
open PySem.SeqAt
open PySem.AutoSeq1 (wpAny_loadPart')
open PySem.MeetsSeq PySem.MeetsSeq2 PySem.MeetsSeq3
end
def TupI (h : Heap) (v : Value) (ns : List Int) : Prop := ∃ (a : Addr) (its : Array Value) (n : Nat) (dd : Option Addr) (sl : Array (Option Value)), v = .ref a ∧ h.get? a = some { cls := .type "tuple", dict := dd, data := .seq its n, slots := sl } ∧ IntsAre its.toList ns
def TupP (h : Heap) (v : Value) (ns ms : List Int) : Prop := ∃ (a : Addr) (x y : Value) (n : Nat) (dd : Option Addr) (sl : Array (Option Value)), v = .ref a ∧ h.get? a = some { cls := .type "tuple", dict := dd, data := .seq #[x, y] n, slots := sl } ∧ TupI h x ns ∧ TupI h y ms
theorem TupI.keeps {g h : Heap} {v : Value} {ns : List Int} (t : TupI g v ns) (k : Keeps g h) : TupI h v ns := by
  obtain ⟨a, its, n, dd, sl, e, o, i⟩ := t
  exact ⟨a, its, n, dd, sl, e, k _ _ o, i⟩
theorem TupP.keeps {g h : Heap} {v : Value} {ns ms : List Int} (t : TupP g v ns ms) (k : Keeps g h) : TupP h v ns ms := by
  obtain ⟨a, x, y, n, dd, sl, e, o, i, j⟩ := t
  exact ⟨a, x, y, n, dd, sl, e, k _ _ o, i.keeps k, j.keeps k⟩
section
variable {prog : Program} {w : World} {A : Around} {E : Value → Shared → Prop} {s : Shared} {C : Bool → Shared → Prop}
end
open PySem.W (KatTups) in
theorem vals_at : ∀ {xs : List V} {us : List Value}, Vals xs us → ∀ i, i < xs.length → RelV (xs.getD i .non) (us.getD i Value.none)
  | _, _, .nil, i, h => by cases h
  | _, _, .cons r t, 0, _ => r
  | _, _, .cons r t, i + 1, h => vals_at t i (Nat.lt_of_succ_lt_succ h)
theorem vals_map {f : Nat → V} {g : Nat → Value} : ∀ l : List Nat, (∀ i, i ∈ l → RelV (f i) (g i)) → Vals (l.map f) (l.map g)
  | [], _ => .nil
  | i :: l, h => .cons (h i (List.mem_cons_self ..)) (vals_map l fun j hj => h j (List.mem_cons_of_mem _ hj))
section
variable {X : Cx} {pins : List (Addr × Obj)} {σ : St} {H : Hp} {s : Shared}
theorem tupI_of (I : Inv X pins σ H s) {a : Addr} {ns : List Int} (h : H a = some (.tup (ns.map V.int))) : TupI s.heap (.ref a) ns := by
  obtain ⟨its, r, ⟨⟨cls, dd, data, sl⟩, ho, hc, n, hd⟩, _⟩ := I.tuple (.of h)
  simp only at hc hd
  subst hc hd
  exact ⟨a, _, n, dd, sl, rfl, ho, intsAre_of r⟩
theorem bt_sorted : bootBuiltins "sorted" = some (.builtin "sorted") := by decide +kernel
theorem hu100 {A : Around} {k : Nat} (hr : Room k A) : A.units + 100 < cLine := by have := hr.un; omega
end
end L2
set_option Elab.async false
set_option linter.all false
set_option maxRecDepth 100000
set_option maxHeartbeats 4000000
namespace L2
open PySem PySem.Spec PyProof.Rows
section
variable {X : Cx} {tg : Expr}
end
end L2
set_option Elab.async false
set_option linter.all false
set_option maxRecDepth 100000
set_option maxHeartbeats 4000000
namespace L2
open PySem PySem.Spec PyProof.Rows
structure OnlyT (ts : List Addr) (H : Hp) : Prop where
  only : ∀ b, H b = none ∨ (∃ o xs, H b = some (.frz o (.lst xs))) ∨ (b ∈ ts ∧ H b = some (.tbl #[]))
  tabs : ∀ b, b ∈ ts → H b = some (.tbl #[])
theorem law_callT {P : Program} {w : World} {K : PySem.W.Frag} {mg mb : Str → Option Value} {CX : CXT} {k : Nat} {fa a : Addr} {fd : FuncData} {x : Str} {sp : Sp} {s₁ : Shared} {vs : List Value} {ns : List Int} {ts : List Addr}
    (KX : K.In s₁.heap) (hns : s₁.heap.Ns mainGlobals mg) (hb : s₁.heap.Ns builtinsNs mb) (hbb : ∀ x : Str, x ≠ "__name__" → mb x = bootBuiltins x) (hlim : s₁.heap.NoLimit) (hg : s₁.gens = #[])
    (ha : s₁.heap.get? a = some { cls := .type "list", data := .seq vs.toArray }) (hi : IntsAre vs ns) (hl : ns.length ≤ sizeLine) (hr : Room k callerA)
    (hT : ∀ b, b ∈ ts → s₁.heap.get? b = some (PySem.W.tabObj #[]) ∧ K.lookup b = none ∧ isCodeTable s₁.heap b)
    (hbm : ∃ bm ob, mg "__builtins__" = some (.ref bm) ∧ bm ≠ builtinsNs ∧ s₁.heap.get? bm = some ob ∧ ob.cls = .type "module" ∧ ob.dict = some builtinsNs ∧ ob.data = .plain)
    (F : ∀ base : Heap, K.In base → base.Ns mainGlobals mg → (∀ b, b ∈ ts → base.BuiltinsAt mg b) → FnOk P w K mg base CX k fa fd [x] sp) (hbind : ∀ (s : Shared) (u : Value), BindsTo s fd ⟨[u], []⟩ [(x, u)])
    (hsp : ∀ H : Hp, OnlyT ts H → SqL K H a (ns.map V.int) → sp [.ref a] H (fun v _ => v = .bl true) fun _ _ _ => False)
    (hCX : ∀ H e s', CX [] H s₁ (fun _ _ _ => False) e s' → False) :
    codeAny (model P w) callerA (.call (.ref fa) ⟨[.ref a], []⟩) (fun r s' => r = .ok (.ret (.bool true)) ∧ OldK s₁.heap s'.heap ∧ s'.os = s₁.os ∧ AllBare s'.gens) s₁ := by
  have rv := vals_ints hi
  have lenV := hi.length
  have naT : a ∉ ts := fun z => by
    have e := (hT a z).1
    rw [ha] at e
    cases e
  have core : ∀ H : Hp, OnlyT ts H → SqL K H a (ns.map V.int) → HOk P w H s₁.heap → (∀ b, H b ≠ none → b = a ∨ b ∈ ts) → (H a ≠ none → K.lookup a = none) →
      codeAny (model P w) callerA (.call (.ref fa) ⟨[.ref a], []⟩) (fun r s' => r = .ok (.ret (.bool true)) ∧ OldK s₁.heap s'.heap ∧ s'.os = s₁.os ∧ AllBare s'.gens) s₁ := by
    intro H hO hS hok hA hK
    have base_of : ∀ {b : Addr} {o : Obj}, s₁.heap.get? b = some o → H b = none → (hidT s₁.heap H).get? b = some o := fun e n => hidT_get e n
    have noD : ∀ {b : Addr} {o : Obj}, s₁.heap.get? b = some o → o.cls ≠ .none → o.cls ≠ .type "list" → H b = none := fun {b o} e d1 d2 => by
      cases q : H b with
      | none => rfl
      | some u =>
        rcases hA b (by rw [q]; simp) with e' | e'
        · subst e'
          rw [ha] at e; cases e
          exact absurd rfl d2
        · rw [(hT b e').1] at e; cases e
          exact absurd rfl d1
    have noA : ∀ {b : Addr} {o : Obj} {es : Array DictEntry} {ep : Nat}, s₁.heap.get? b = some o → o.data = .dict es ep → H b = none := fun {b o es ep} e d => by
      cases q : H b with
      | none => rfl
      | some u =>
        rcases hA b (by rw [q]; simp) with e' | e'
        · subst e'
          rw [ha] at e; cases e
          have d' : Data.seq vs.toArray _ = Data.dict es ep := d
          cases d'
        · rw [(hT b e').1] at e; cases e
          have d' : Data.fields #[] = Data.dict es ep := d
          cases d'
    have nsK : ∀ {b : Addr} {m : Str → Option Value}, s₁.heap.Ns b m → (hidT s₁.heap H).Ns b m := fun {b m} ⟨o, es, ep, e, d, r⟩ => ⟨o, es, ep, base_of e (noA e d), d, r⟩
    have hKb : K.In (hidT s₁.heap H) := fun b o e => base_of (KX b o e) (by
      cases q : H b with
      | none => rfl
      | some u =>
        rcases hA b (by rw [q]; simp) with e' | e'
        · subst e'
          rw [hK (by rw [q]; simp)] at e; cases e
        · rw [(hT b e').2.1] at e; cases e)
    have hM : Mod K mg (hidT s₁.heap H) := ⟨hKb, nsK hns, ⟨mb, nsK hb, hbb⟩, let ⟨mc, h1, h2⟩ := hlim; ⟨mc, nsK h1, h2⟩⟩
    have hB : ∀ b, b ∈ ts → (hidT s₁.heap H).BuiltinsAt mg b := fun b hb' => by
      obtain ⟨bm, ob, b1, b2, b3, b4, b5, b6⟩ := hbm
      refine ⟨bm, ob, b1, b2, fun q => ?_, fun q => ?_, base_of b3 (noD b3 (by rw [b4]; simp) (by rw [b4]; simp)), b4, b5, b6⟩
      · obtain ⟨o, es, ep, e, d, _⟩ := hns
        rw [← q, b3] at e; cases e
        rw [b6] at d; cases d
      · rw [q, (hT b hb').1] at b3; cases b3; cases b4
    have e0 : Env0 P w K mg (hidT s₁.heap H) callerA [] s₁ H := ⟨rfl, hM, fun b o e => of_hidT e, Nat.le_of_eq (hidT_size _ _), trivial, fun b hb => absurd (show b ∈ ([] : List Addr) from hb) (by simp), hok, .of_eq hg⟩
    refine codeAny_mono ((F _ hKb (nsK hns) hB).run callerA [] s₁ H ⟨[.ref a], []⟩ [.ref a] [.ref a] _ _ hr e0 (hbind s₁ (.ref a)) (.cons rfl .nil) (hsp H hO hS)) fun r s' h => ?_
    cases r with
    | error e => exact (hCX H e s' h).elim
    | ok fl =>
      cases fl with
      | next => exact False.elim h
      | brk => exact False.elim h
      | cont => exact False.elim h
      | ret u =>
        obtain ⟨v, H', os, bare, un, hok', r', q⟩ := h
        have q' : v = .bl true := q
        subst q'
        obtain rfl : u = Value.bool true := r'
        have at' : ∀ b o, s₁.heap.get? b = some o → asItWas s₁.heap s'.heap b o := fun b o e => by
          cases q : H b with
          | none => exact .inl (un.keep b o e q (by intro z; exact absurd (show b ∈ ([] : List Addr) from z) (by simp)) (by simp))
          | some u =>
            rcases hO.only b with z | ⟨ob, xs, z⟩ | ⟨hbt, z⟩
            · rw [q] at z; cases z
            · have z2 := un.frzs b ob _ z
              obtain ⟨e1, _⟩ := hok b _ z
              obtain ⟨e2, _⟩ := hok' b _ z2
              rw [e] at e1; cases e1
              exact .inl e2
            · obtain ⟨more, z2⟩ := un.tbls b _ z
              have e2 : s'.heap.get? b = some { cls := .none, data := .fields (#[] ++ more) } := hok' b _ z2
              have e1 := (hT b hbt).1
              rw [e] at e1; cases e1
              exact .inr (.inl ⟨(hT b hbt).2.2, rfl, #[], more, rfl, e2⟩)
        exact ⟨rfl, ⟨at', fun b o e => un.there b o e (by simp)⟩, os, bare⟩
  cases hk : K.lookup a with
  | some o =>
    have e := KX a o hk
    rw [ha] at e
    cases e
    refine core (fun b => if b ∈ ts then some (.tbl #[]) else none) ⟨fun b => ?_, fun b hb' => if_pos hb'⟩ (.inr ⟨_, vs.toArray, _, hk, rfl, rfl, rfl, by rw [List.size_toArray, lenV]; exact hl, by simpa using rv⟩) (fun b u z => ?_) (fun b z => ?_) fun z => absurd (if_neg naT) z
    · by_cases hbt : b ∈ ts
      · exact .inr (.inr ⟨hbt, if_pos hbt⟩)
      · exact .inl (if_neg hbt)
    · by_cases hbt : b ∈ ts
      · have z' := (if_pos hbt).symm.trans z
        cases z'
        exact (hT b hbt).1
      · have z' := (if_neg hbt).symm.trans z
        cases z'
    · by_cases hbt : b ∈ ts
      · exact .inr hbt
      · exact absurd (if_neg hbt) z
  | none =>
    refine core (fun b => if b = a then some (.frz { cls := .type "list", data := .seq vs.toArray } (.lst (ns.map V.int))) else if b ∈ ts then some (.tbl #[]) else none) ⟨fun b => ?_, fun b hb' => ?_⟩ (.inl (.inr ⟨{ cls := .type "list", data := .seq vs.toArray }, if_pos rfl⟩)) (fun b u z => ?_) (fun b z => ?_) fun _ => hk
    · by_cases hb : b = a
      · exact .inr (.inl ⟨_, _, if_pos hb⟩)
      · by_cases hbt : b ∈ ts
        · exact .inr (.inr ⟨hbt, (if_neg hb).trans (if_pos hbt)⟩)
        · exact .inl ((if_neg hb).trans (if_neg hbt))
    · have hb : ¬ b = a := fun z => naT (z ▸ hb')
      exact (if_neg hb).trans (if_pos hb')
    · by_cases hb : b = a
      · have z' := (if_pos hb).symm.trans z
        cases z'
        subst hb
        exact ⟨ha, by rw [List.length_map]; exact hl, vs, _, rv, ha⟩
      · by_cases hbt : b ∈ ts
        · have z' := ((if_neg hb).trans (if_pos hbt)).symm.trans z
          cases z'
          exact (hT b hbt).1
        · have z' := ((if_neg hb).trans (if_neg hbt)).symm.trans z
          cases z'
    · by_cases hb : b = a
      · exact .inl hb
      · by_cases hbt : b ∈ ts
        · exact .inr hbt
        · exact absurd ((if_neg hb).trans (if_neg hbt)) z
theorem walk_ofT {l : PySem.W.OpenLaw} {n k : Nat} {q : Program} {loose : List Str} {XP : (Str → Option Value) → Heap → Prop} {YP : World → Heap → Prop} {d : DefRec} {K : Params → PySem.W.Frag} {CX : World → CXT} {sp : World → List Addr → Sp} {x : Str} {ds : List Str}
    (hn : l.most = some n) (hn2 : n ≤ sizeLine) (hdf : d.params.defaults = []) (hr : Room k callerA)
    (hY : ∀ (w : World) (h : Heap), YP w h → (K w.params).In h)
    (hD : ∀ y, y ∈ ds → ∃ e, (recsOf q).find? (fun e => e.name == y) = some e)
    (F : ∀ (w : World) (mg : Str → Option Value) (fa : Addr) (h : Heap), (K w.params).In h → h.Ns mainGlobals mg → mg d.name = some (.ref fa) →
      ∃ (fd : FuncData) (ts : List Addr), (∀ b, b ∈ ts → (K w.params).lookup b = none ∧ ∃ y c, y ∈ ds ∧ PySem.W.tabIn (K w.params) y = some (c, b)) ∧ (∀ (s : Shared) (u : Value), BindsTo s fd ⟨[u], []⟩ [(x, u)]) ∧
        ∀ base : Heap, (K w.params).In base → base.Ns mainGlobals mg → (∀ b, b ∈ ts → base.BuiltinsAt mg b) → FnOk l.prog w (K w.params) mg base (CX w) k fa fd [x] (sp w ts))
    (hsp : ∀ (w : World) (H : Hp) (a : Addr) (ns : List Int) (ts : List Addr), ns.length ≤ n → OnlyT ts H → SqL (K w.params) H a (ns.map V.int) → sp w ts [.ref a] H (fun v _ => v = .bl true) fun _ _ _ => False)
    (hCX : ∀ (w : World) (H : Hp) (s : Shared) (e : Value) (s' : Shared), CX w [] H s (fun _ _ _ => False) e s' → False) :
    PySem.W.WalkO q loose XP YP l.row.toRowW d [] (fun f vs => PySem.call f vs) := by
  refine Att.attach_call hn hdf fun w s₀ s₁ mg mb fa o pm cd doc a vs ns G Y ho hd hcd hmg hobj hints hlen hg => ?_
  have KX := hY w _ Y
  obtain ⟨fd, ts, ht, hb, hF⟩ := F w mg fa _ KX G.T.g hmg
  refine law_callT (ts := ts) KX G.T.g G.T.b G.T.builtins G.T.nolimit hg hobj hints (Nat.le_trans hlen hn2) hr (fun b hb' => ?_) G.T.bmain hF hb (fun H hO hS => hsp w H a ns ts hlen hO hS) fun H e s' => hCX w H s₁ e s'
  obtain ⟨hk, y, c, hy, e⟩ := ht b hb'
  obtain ⟨r, hr'⟩ := hD y hy
  obtain ⟨C, hP⟩ := PySem.W.tab_of G.T KX hr' e
  exact ⟨hP, hk, (C.tab hP).isCodeTable⟩
end L2
set_option Elab.async false
set_option linter.all false
set_option maxRecDepth 100000
set_option maxHeartbeats 4000000
namespace L2
open PySem PySem.Spec PyProof.Rows
open PySem.W (kla_fn kla_obj envX tabObj CodeHd)
structure LamScope (x y : Str) (sc : Scope) : Prop where
  kind : sc.kind = .function
  co : sc.isCoroutine = false
  gen : sc.isGenerator = false
  par : sc.names.lookup x = some .local
  cap : sc.names.lookup y = some .free
  nocell : ∀ z, z ∈ sc.names → z.2 ≠ .cell
  free : ∀ z, z ∈ sc.names → z.2 = .free → z.1 = y
def cxLam (P : Program) (w : World) (K : PySem.W.Frag) (mg : Str → Option Value) (base : Heap) (x y : Str) (qual : Str) (sc : Scope) (f : Addr) (cd : Value) (c : Addr) (A : Around) (outer : List Env) (s : Shared) (H : Hp) : Cx where
  prog := P
  w := w
  K := K
  mg := mg
  base := base
  A := A.deeper (envX qual sc s.heap.objs.size f cd [(y, c)])
  N := [x, y]
  s₀ := s
  H₀ := H
  env := envX qual sc s.heap.objs.size f cd [(y, c)]
  outer := outer
  stack := envX qual sc s.heap.objs.size f cd [(y, c)] :: outer
  ex := []
  calm := true
  fn := fun _ => false
  pn := []
  xe := fun _ _ => False
theorem lookup_one {y z : Str} {c d : Addr} (h : ([(y, c)] : List (Str × Addr)).lookup z = some d) : z = y ∧ d = c := by
  rw [List.lookup_cons] at h
  by_cases e : z = y
  · subst e
    rw [beq_self_eq_true] at h
    cases h
    exact ⟨rfl, rfl⟩
  · rw [beq_eq_false_iff_ne.mpr e] at h
    cases h
theorem lookup_self (y : Str) (c : Addr) : ([(y, c)] : List (Str × Addr)).lookup y = some c := by rw [List.lookup_cons, beq_self_eq_true]
theorem inv_lam {P : Program} {w : World} {K : PySem.W.Frag} {mg : Str → Option Value} {base : Heap} {x y qual : Str} {sc : Scope} {f c : Addr} {cd : Value} {A : Around} {outer : List Env} {s : Shared} {H : Hp} {u uy : Value} {v vy : V} {h₁ : Heap} {tk : Nat}
    (S : LamScope x y sc) (hd : A.handled = none) (e0 : Env0 P w K mg base A outer s H) (ru : RelV v u) (ry : RelV vy uy) (hc : s.heap.IsCell c (some uy)) (hcn : H c = none)
    (hns : h₁.Ns s.heap.objs.size (fun z => ([(x, u)] : List (Str × Value)).reverse.lookup z)) (hk : ∀ b o, s.heap.get? b = some o → h₁.get? b = some o) :
    Inv (cxLam P w K mg base x y qual sc f cd c A outer s H) [] [some v, some vy] H { s with heap := h₁, toks := tk } := by
  have noA : ∀ b : Addr, b ∉ (cxLam P w K mg base x y qual sc f cd c A outer s H).ex := fun b z => absurd (show b ∈ ([] : List Addr) from z) (by simp)
  refine ⟨⟨e0.mod, S.kind, rfl, rfl, Nat.le_refl _, fun y1 z1 d h1 h2 => ?_, fun z hz => ?_, fun z d hf _ => ?_, fun _ => hd, Around.frames_deeper e0.frames, .inr ⟨rfl, rfl⟩, fun b z => absurd z (noA b), e0.bs, e0.bsz, fun b _ _ => noA b, fun b z => absurd z (noA b), e0.funs, e0.frf⟩,
    rfl, e0.bare, Un.kept hk, ⟨_, hns, fun i z v' h1 h2 h3 => ?_⟩, fun z d h => ?_, e0.hok.fresh (Nat.le_refl _), fun z d h => ?_, fun p hp => absurd (show p ∈ ([] : List (Addr × Obj)) from hp) (by simp), e0.hok.kept hk, rfl⟩
  · exact (lookup_one h1).1.trans (lookup_one h2).1.symm
  · have hz : sc.names.lookup z = some .cell ∨ sc.names.lookup z = some .free := hz
    rcases hz with hz | hz
    · exact absurd rfl (S.nocell _ (PySem.mem_of_lookup hz))
    · have e := S.free _ (PySem.mem_of_lookup hz) rfl
      have e : z = y := e
      subst e
      exact ⟨c, lookup_self _ _⟩
  · cases hf
  · match i, h1, h2 with
    | 0, h1, h2 =>
      cases h1
      cases h2
      refine ⟨u, ru, .inl ⟨S.par, ?_⟩⟩
      show ([(x, u)] : List (Str × Value)).reverse.lookup x = some u
      simp
    | 1, h1, h2 =>
      cases h1
      cases h2
      obtain ⟨o, ho, hd'⟩ := hc
      exact ⟨uy, ry, .inr ⟨.inr S.cap, c, lookup_self _ _, o, hk _ _ ho, hd'⟩⟩
  · obtain ⟨_, rfl⟩ := lookup_one h
    obtain ⟨o, ho, hd'⟩ := hc
    exact ⟨_, o, hk _ _ ho, hd'⟩
  · obtain ⟨_, rfl⟩ := lookup_one h
    exact hcn
section
variable {X : Cx} {pins : List (Addr × Obj)} {σ : St} {H : Hp} {s : Shared}
theorem lam_run {A : Around} {k : Nat} {x y name qual : Str} {params : Arguments} {body : Expr} {sc : Scope} {fa c c' : Addr} {pm ctv u uy : Value} {v vy : V} {te : TE} {Q : VK} (I : Inv X pins σ H s)
    (e0 : Env0 X.prog X.w X.K X.mg X.base A X.stack s H) (hr : Room k A) (S : LamScope x y sc) (ho : s.heap.get? fa = some (kla_obj name qual params body sc [(y, c)] pm c' ctv)) (hcd : s.heap.CodeRec (.ref c') qual)
    (hb : bindArgs (kla_fn name qual params body sc [(y, c)] pm (.ref c') ctv) ⟨[u], []⟩ = pure [(x, u)]) (ru : RelV v u) (ry : RelV vy uy) (hc : s.heap.IsCell c (some uy)) (hcn : H c = none)
    (hbody : PE (cxLam X.prog X.w X.K X.mg X.base x y qual sc fa (.ref c') c A X.stack s H) body te) (q : te [some v, some vy] H Q) :
    wpAny (model X.prog X.w) A (call (.ref fa) [u]) (EP X pins σ Q) (fun _ _ => False) s := by
  refine wpAny_call (codeAny_mono (R := CR CX0 X.stack X.prog X.w H s Q E0) ?_ fun r s' hq => ?_)
  · refine PySem.W.kla_callFunE hr.depth ho rfl S.co S.gen rfl hcd ?_
    rw [hb]
    refine wpAny_pure (wpAny_newFunctionEnv S.nocell (fun z hz => ?_) (fun h₁ hns hsb => ⟨I.nolimit.fresh _ hsb, ?_⟩) S.kind)
    · rw [List.mem_singleton] at hz
      rw [hz]
      exact S.par
    · show codeAny _ _ (.expr body (envX qual sc s.heap.objs.size fa (.ref c') [(y, c)])) _ _
      have kp : ∀ d u, s.heap.get? d = some u → h₁.get? d = some u := fun d u z => hsb.extBut d u (Nat.ne_of_lt (Heap.lt_size z)) (Heap.get?_push_of_some _ z)
      have J := inv_lam (tk := s.toks + 1) (f := fa) (qual := qual) (cd := .ref c') S hr.hd e0 ru ry hc hcn hns kp
      refine PySem.W.kla_codeExpr (wpAny_mono (hbody [] _ _ H Q J q) (fun r s' hs => ?_) fun e s' hs => hs.elim)
      obtain ⟨v', H', J', r', q'⟩ := hs
      exact ⟨v', H', J'.os, J'.bare, J'.base, J'.hok, r', q'⟩
  · cases r with
    | error e => exact hq.elim
    | ok fl =>
      cases fl with
      | ret u => exact I.after hq
      | next => exact False.elim hq
      | brk => exact False.elim hq
      | cont => exact False.elim hq
end
end L2
set_option Elab.async false
set_option linter.all false
set_option maxRecDepth 100000
set_option maxHeartbeats 4000000
namespace L2
open PySem PySem.Spec PyProof.Rows
open PySem.W (kla_fn kla_obj envX tabObj CodeHd)
def codeX (c : Addr) (q : Str) : HO := .ext fun h => h.CodeRec (.ref c) q
def LamTab (H : Hp) (P : Addr) (pos : Pos) (q : Str) : Prop := ∃ ps, H P = some (.tbl ps) ∧ TriplesOk ps.toList ∧ (codeAmong pos ps.toList = none ∨ ∃ c, codeAmong pos ps.toList = some (.ref c) ∧ H c = some (codeX c q))
def SameT (P : Addr) (H H' : Hp) : Prop := ∀ b o, b ≠ P → H b = some o → H' b = some o
theorem SameT.refl (P : Addr) (H : Hp) : SameT P H H := fun _ _ _ h => h
theorem SameT.of {P : Addr} {H H' : Hp} (g : Same H H') : SameT P H H' := fun b o _ h => g b o h
theorem SameT.trans {P : Addr} {H H1 H2 : Hp} (a : SameT P H H1) (b : SameT P H1 H2) : SameT P H H2 := fun c o n h => b c o n (a c o n h)
theorem LamTab.same {H H' : Hp} {P : Addr} {pos : Pos} {q : Str} (h : LamTab H P pos q) (g : Same H H') : LamTab H' P pos q := by
  obtain ⟨ps, e, t, z⟩ := h
  refine ⟨ps, g _ _ e, t, ?_⟩
  rcases z with z | ⟨c, z, y⟩
  · exact .inl z
  · exact .inr ⟨c, z, g _ _ y⟩
section
variable {X : Cx} {pins : List (Addr × Obj)} {σ : St} {H : Hp} {s : Shared}
theorem lam_make {params : Arguments} {body : Expr} {sc : Scope} {pos : Pos} {c0 P : Addr} {clos : List (Str × Addr)} {Q : Value → Shared → Prop} (I : Inv X pins σ H s) (hcode : X.env.code = .ref c0) (C : CodeHd X.base c0 P) (hB : X.base.BuiltinsAt X.mg P)
    (hcl : closureFor sc X.env = pure clos) (hdef : defaultsOf params X.env = ([], [])) (ht : LamTab H P pos (X.env.qual ++ "<lambda>"))
    (q : ∀ (fa c' : Addr) (ctv : Value) (H' : Hp) (s' : Shared), Inv X pins σ H' s' → SameT P H H' → LamTab H' P pos (X.env.qual ++ "<lambda>") → s'.heap.get? fa = some (kla_obj "<lambda>" (X.env.qual ++ "<lambda>") params body sc clos ((X.mg "__name__").getD .none) c' ctv) →
      H' c' = some (codeX c' (X.env.qual ++ "<lambda>")) → FpOk X pins H' fa → Q (.ref fa) s') :
    wpAny (model X.prog X.w) X.A (eval (.Lambda params body sc pos) X.env) Q X.xe s := by
  obtain ⟨ps, hP, tr, alt⟩ := ht
  have hPh : s.heap.get? P = some (tabObj ps) := I.hok P _ hP
  have kb := I.bk
  have hg : s.heap.Ns mainGlobals X.mg := I.ok.mod.glob.keeps kb
  have Cs := C.keeps kb
  have Bs : s.heap.BuiltinsAt X.mg P := by
    obtain ⟨bm, o, b1, b2, b3, b4, b5, b6⟩ := hB
    exact ⟨bm, o, b1, b2, b3, b4, kb _ _ b5, b6⟩
  have neG : mainGlobals ≠ P := fun z => by
    obtain ⟨o, es, ep, e, hd, _⟩ := hg
    rw [z, hPh] at e; cases e; cases hd
  refine PySem.W.kla_eval hdef ?_
  rcases alt with hn | ⟨c', hf, hc'⟩
  · refine PySem.W.kla_makeFunction hcl I.ok.glob hg hcode Cs hPh tr hn neG Bs fun c' ctv h' tk hx hge hlt hrec htb => ?_
    have neC : ∀ b u, H b = some u → b ≠ c' := fun b u e z => by
      rw [z, I.hok.fresh hge] at e; cases e
    have nP : ∀ b, H b = none → b ≠ P := fun b n z => by rw [z, hP] at n; cases n
    have cP : c' ≠ P := fun z => by rw [← z, I.hok.fresh hge] at hP; cases hP
    have keep : ∀ b o, b ≠ P → s.heap.get? b = some o → (h'.push (kla_obj "<lambda>" (X.env.qual ++ "<lambda>") params body sc clos ((X.mg "__name__").getD .none) c' ctv)).get? b = some o := fun b o n e => Heap.get?_push_of_some _ (hx b o n e)
    have hP' := Heap.get?_push_of_some (kla_obj "<lambda>" (X.env.qual ++ "<lambda>") params body sc clos ((X.mg "__name__").getD .none) c' ctv) htb
    have upP : ∀ b u, b ≠ P → H b = some u → upd (upd H P (.tbl (ps ++ #[rawInt pos.line, rawInt pos.col, .ref c']))) c' (codeX c' (X.env.qual ++ "<lambda>")) b = some u := fun b u n e => by rw [upd_ne (neC b u e), upd_ne n]; exact e
    have up0 : upd (upd H P (.tbl (ps ++ #[rawInt pos.line, rawInt pos.col, .ref c']))) c' (codeX c' (X.env.qual ++ "<lambda>")) P = some (.tbl (ps ++ #[rawInt pos.line, rawInt pos.col, .ref c'])) := by rw [upd_ne cP.symm, upd_same]
    have J : Inv X pins σ (upd (upd H P (.tbl (ps ++ #[rawInt pos.line, rawInt pos.col, .ref c']))) c' (codeX c' (X.env.qual ++ "<lambda>"))) { s with heap := h'.push (kla_obj "<lambda>" (X.env.qual ++ "<lambda>") params body sc clos ((X.mg "__name__").getD .none) c' ctv), toks := tk } := by
      refine I.step (g' := s.gens) (d' := s.drawn) (ch := []) (fun _ z => nomatch z) (fun b o _ _ _ e n => keep b o (nP b n) e) (fun b o _ _ _ e n => ⟨o.slots, keep b o (nP b n) e⟩) (fun b o _ e n => ?_) (fun b o _ e => ?_) (fun b xs e => ?_) (fun b o u e => ?_) (fun b qs e => ?_) (fun m hm => ?_) (fun b u e => ?_) I.bare
      · rw [upd_ne (Nat.ne_of_lt (Nat.lt_of_lt_of_le (Heap.lt_size e) hge)), upd_ne (nP b n)]
        exact n
      · by_cases z : b = P
        · exact ⟨_, z ▸ hP'⟩
        · exact ⟨o, keep b o z e⟩
      · exact upP b _ (fun z => by rw [z, hP] at e; cases e) e
      · exact upP b _ (fun z => by rw [z, hP] at e; cases e) e
      · by_cases z : b = P
        · subst z
          rw [hP] at e
          cases e
          exact ⟨_, up0⟩
        · exact ⟨#[], by rw [upP b _ z e]; simp⟩
      · obtain ⟨o, es, ep, ho, r⟩ := hm
        exact ⟨o, es, ep, keep _ o (nP _ I.free) ho, r⟩
      · by_cases z : b = c'
        · subst z
          rw [upd_same] at e
          cases e
          have hr2 := hrec.push (kla_obj "<lambda>" (X.env.qual ++ "<lambda>") params body sc clos ((X.mg "__name__").getD .none) b ctv)
          obtain ⟨c2, oc, vs, t, e2, hoc, hd, hv⟩ := id hr2
          cases e2
          refine ⟨hr2, ⟨oc, hoc⟩, fun h1 h2 ph k => ?_⟩
          obtain ⟨c3, oc3, vs3, t3, e3, hoc3, hd3, hv3⟩ := ph
          cases e3
          exact ⟨_, oc3, vs3, t3, rfl, k _ hoc3, hd3, hv3⟩
        · rw [upd_ne z] at e
          by_cases y : b = P
          · subst y
            rw [upd_same] at e
            cases e
            exact hP'
          · rw [upd_ne y] at e
            refine (I.hok b u e).stay (fun d v hd hv => keep d v ?_ hv) (fun d hd => ?_) fun d xs hd => ?_
            · rcases hd with rfl | hd
              · exact y
              · intro z'; rw [z', hP] at hd; cases hd
            · exact upP d _ (fun z' => by rw [z', hP] at hd; cases hd) hd
            · exact upP d _ (fun z' => by rw [z', hP] at hd; cases hd) hd
    refine q h'.objs.size c' ctv _ _ J (fun b o n e => upP b o n e) ⟨_, up0, ?_, .inr ⟨c', ?_, upd_same⟩⟩ (Heap.get?_push_size _ rfl) upd_same ?_
    · rw [Array.toList_append]
      exact TriplesOk_snoc _ _ _ _ tr
    · rw [Array.toList_append]
      exact codeAmong_snoc _ tr hn
    · have hsz : s.heap.objs.size ≤ h'.objs.size := Nat.le_trans hge (Nat.le_of_lt hlt)
      have nf : upd (upd H P (.tbl (ps ++ #[rawInt pos.line, rawInt pos.col, .ref c']))) c' (codeX c' (X.env.qual ++ "<lambda>")) h'.objs.size = none := by
        rw [upd_ne (Nat.ne_of_gt hlt), upd_ne]
        · exact I.hok.fresh hsz
        · intro z
          rw [← z, I.hok.fresh hsz] at hP
          cases hP
      exact I.fpOk hsz nf
  · have hrec : s.heap.CodeRec (.ref c') (X.env.qual ++ "<lambda>") := (I.hok c' _ hc').1
    refine PySem.W.kla_makeFunctionHit hcl I.ok.glob hg hcode Cs hPh tr hf Bs fun ctv h' tk hk hsz => ?_
    have J : Inv X pins σ H { s with heap := h'.push { cls := .type "function", data := .func (kla_fn "<lambda>" (X.env.qual ++ "<lambda>") params body sc clos ((X.mg "__name__").getD .none) (.ref c') ctv) }, toks := tk } := I.kept fun b o e => Heap.get?_push_of_some _ (hk b o e)
    exact q h'.objs.size c' ctv H _ J (.refl P H) ⟨ps, hP, tr, .inr ⟨c', hf, hc'⟩⟩ (Heap.get?_push_size _ rfl) hc' (I.fpOk hsz (I.hok.fresh hsz))
end
end L2
set_option Elab.async false
set_option linter.all false
set_option maxRecDepth 100000
set_option maxHeartbeats 4000000
namespace L2
open PySem PySem.Spec PyProof.Rows
open PySem.W (KasT kas_sort kas_ask kas_item)
section
variable {prog : Program} {w : World} {A : Around} {E : Value → Shared → Prop} {s : Shared} {vs ks : List Value} {g : Heap} {a kS : Addr} {e e1 : Nat} {f : Value}
def KeyFin (prog : Program) (w : World) (A : Around) (a kS : Addr) (e1 : Nat) (vs ks : List Value) (P : PySem.Fin → Shared → Prop) (s : Shared) : Prop :=
  s.heap.get? a = some (seqObj "list" #[] e1) ∧ ∃ (κ : SortKind) (ans : Nat → Nat → Bool),
    (2 ≤ vs.length → ∀ Q' : SortKind → Shared → Prop, Q' κ s → wpAny (model prog w) A (keyKind' ks.toArray) Q' (fun _ _ => False) s) ∧
    (2 ≤ vs.length → ∀ i j C, i < vs.length → j < vs.length → C (ans i j) s → kas_ask prog w A κ ks i j C s) ∧
    ∀ p : Array Nat, Ord vs.length p → (2 ≤ vs.length → p = ansT ans (kas_sort vs.length)) → P (.done (.ret .none)) { s with heap := (s.heap.update kS (Obj.mapSeq fun _ => (#[] : Array Value))).update a (Obj.mapSeq fun _ => List.toArray (p.toList.map fun i => vs.getD i Value.none)) }
theorem keyed_tail {st : SortSt} {p : Array Nat} {P : PySem.Fin → Shared → Prop} (hs : (arrOf st).map (·.2) = List.toArray (p.toList.map fun i => vs.getD i Value.none)) (hf : failedOf st = none) (hz : p.size = vs.length) (h64 : vs.length < 64) (hkl : ks.length < 64) (nak : a ≠ kS)
    (hk : s.heap.get? kS = some (seqObj "list" ks.toArray e)) (ha : s.heap.get? a = some (seqObj "list" #[] e1))
    (q : P (.done (.ret .none)) { s with heap := (s.heap.update kS (Obj.mapSeq fun _ => (#[] : Array Value))).update a (Obj.mapSeq fun _ => List.toArray (p.toList.map fun i => vs.getD i Value.none)) }) :
    wpAny (model prog w) A (ksk_tail a false e1 (.ref kS) st) P E s := by
  have ha2 : (s.heap.update kS (Obj.mapSeq fun _ => (#[] : Array Value))).get? a = some (seqObj "list" #[] e1) := by rw [Heap.get?_update_ne _ _ _ _ nak]; exact ha
  have hsz : (List.toArray (p.toList.map fun i => vs.getD i Value.none)).size = vs.length := by simp [hz]
  unfold ksk_tail
  dsimp only
  rw [hs]
  refine wpAny_bind (listUpdate_at hk rfl ?_ (by rw [List.size_toArray, sizeLine_eq]; omega) (Nat.zero_le _))
  refine wpAny_bind (wpAny_letGo ?_)
  refine wpAny_bind (seqEpoch_at ha2 rfl ?_)
  refine wpAny_bind (listUpdate_at ha2 rfl ?_ (Nat.zero_le _) (by simp only [Bool.false_eq_true, if_false]; rw [hsz, sizeLine_eq]; omega))
  rw [hf]
  simp only [bne_self_eq_false, Bool.false_eq_true, if_false]
  exact wpAny_pure q
theorem keyed_end {P : PySem.Fin → Shared → Prop} (hl : ks.length = vs.length) (h64 : vs.length < 64) (nak : a ≠ kS) (hk : s.heap.get? kS = some (seqObj "list" ks.toArray e)) (h : KeyFin prog w A a kS e1 vs ks P s) :
    wpAny (model prog w) A (ksk_end a false vs.toArray e1 (.ref kS) ks.toArray) P E s := by
  obtain ⟨ha, κ, ans, hkind, hask, q⟩ := h
  have z0 : vs.toArray.size = vs.length := rfl
  unfold ksk_end
  dsimp only
  simp only [Bool.false_eq_true, if_false]
  by_cases h2 : vs.length < 2
  · rw [z0, if_pos h2, if_pos h2, pure_bind]
    rw [StateT.run_pure]
    refine wpAny_bind (wpAny_pure ?_)
    refine keyed_tail (p := List.toArray (List.range vs.length)) ?_ rfl (by simp) h64 (by omega) nak hk ha (q _ (by unfold Ord; simp) fun z => absurd h2 (Nat.not_lt.mpr z))
    show (ks.toArray.zip vs.toArray).map (·.2) = _
    rw [show (List.toArray (List.range vs.length)).toList = List.range vs.length from rfl, range_getD]
    apply Array.toList_inj.mp
    simp [List.map_snd_zip, hl]
  · have h2' : 2 ≤ vs.length := by omega
    rw [z0, if_neg h2, if_neg h2]
    refine wpAny_bind (wpAny_mono (hkind h2' (fun κ' s' => κ' = κ ∧ s' = s) ⟨rfl, rfl⟩) (fun κ' s' hs => ?_) fun _ _ z => z.elim)
    obtain ⟨rfl, rfl⟩ := hs
    have run := Asks.wp (R := Ord vs.length) (Q := fun p s'' => s'' = s' ∧ Ord vs.length p ∧ p = ansT ans (kas_sort vs.length)) (fun i j C hi hj => hask h2' i j C hi hj) (asks_sort (by omega)) ⟨rfl, Asks.ends (asks_sort (by omega)), rfl⟩
    refine wpAny_bind (wpAny_mono (PySem.W.kat_run (E := E) (ks := ks) (vs := vs) (Q := fun st s'' => ∃ p : Array Nat, p.size = vs.length ∧ arrOf st = p.map (kas_item (ks.toArray.zip vs.toArray)) ∧ failedOf st = none ∧ s'' = s' ∧ Ord vs.length p ∧ p = ansT ans (kas_sort vs.length)) hl h2' h64 (fun p st s'' b1 b2 b3 b4 => ⟨p, b1, b2, b3, b4⟩) run) ?_ fun _ _ z => z)
    rintro ⟨⟨⟩, st⟩ s'' ⟨p, hp, har, hf, rfl, or, ep⟩
    exact keyed_tail (PySem.W.kat_snds hl har) hf hp h64 (by omega) nak hk ha (q p or fun _ => ep)
structure KeyRun (prog : Program) (w : World) (A : Around) (a kS : Addr) (e1 : Nat) (f : Value) (vs : List Value) (P : PySem.Fin → Shared → Prop) (J : Nat → List Value → Nat → Shared → Prop) : Prop where
  store : ∀ i ks e s, J i ks e s → s.heap.get? kS = some (seqObj "list" ks.toArray e) ∧ ks.length = i
  turn : ∀ i x ks e s, vs[i]? = some x → J i ks e s → wpAny (model prog w) A (call f [x]) (fun k s' => s'.heap.get? kS = some (seqObj "list" ks.toArray e) ∧
    ∀ c, (s'.heap.update kS (Obj.mapSeq (·.push k))).get? kS = some (seqObj "list" (ks ++ [k]).toArray c) → J (i + 1) (ks ++ [k]) c { s' with heap := s'.heap.update kS (Obj.mapSeq (·.push k)) }) (fun _ _ => False) s
  fin : ∀ ks e s, J vs.length ks e s → KeyFin prog w A a kS e1 vs ks P s
theorem keyed_fold {P : PySem.Fin → Shared → Prop} {J : Nat → List Value → Nat → Shared → Prop} {body : Value → PUnit → Sem (ForInStep PUnit)} (R : KeyRun prog w A a kS e1 f vs P J)
    (hb : ∀ i x ks e (s : Shared), vs[i]? = some x → J i ks e s → wpAny (model prog w) A (body x ⟨⟩) (fun r s' => r = .yield ⟨⟩ ∧ ∃ k c, J (i + 1) (ks ++ [k]) c s') E s) :
    ∀ (r : List Value) (i : Nat) (ks : List Value) (e : Nat) (s : Shared), i ≤ vs.length → vs.drop i = r → J i ks e s → wpAny (model prog w) A (forIn r PUnit.unit body) (fun _ s' => ∃ ks e, J vs.length ks e s') E s
  | [], i, ks, e, s, hi, hr, h => by
    rw [List.forIn_nil]
    have e0 : i = vs.length := Nat.le_antisymm hi (List.drop_eq_nil_iff.mp hr)
    subst e0
    exact wpAny_pure ⟨ks, e, h⟩
  | x :: r, i, ks, e, s, hi, hr, h => by
    rw [List.forIn_cons]
    have hx : vs[i]? = some x := by
      have z := congrArg (fun l => l[0]?) hr
      simpa [List.getElem?_drop] using z
    have hr2 : vs.drop (i + 1) = r := by
      have z := congrArg (List.drop 1) hr
      simpa [List.drop_drop, Nat.add_comm] using z
    refine wpAny_bind (wpAny_mono (hb i x ks e s hx h) (fun q s' hq => ?_) fun _ _ z => z)
    obtain ⟨rfl, k, c, h2⟩ := hq
    exact keyed_fold R hb r (i + 1) (ks ++ [k]) c s' (List.getElem?_eq_some_iff.mp hx).1 hr2 h2
theorem keyed_rest {P : PySem.Fin → Shared → Prop} {J : Nat → List Value → Nat → Shared → Prop} (R : KeyRun prog w A a kS e1 f vs P J) (h64 : vs.length < 64) (nak : a ≠ kS) (h0 : J 0 [] 0 s) :
    wpAny (model prog w) A (ksk_rest a f false vs.toArray e1 (.ref kS)) P E s := by
  unfold ksk_rest
  refine wpAny_bind (wpAny_rule ?_)
  rw [List.forIn_toArray]
  refine wpAny_bind (wpAny_mono (keyed_fold R (fun i x ks e s' hx hJ => ?_) vs 0 [] 0 s (Nat.zero_le _) List.drop_zero h0) (fun _ s' hd => ?_) fun _ _ z => z)
  · have hi := (List.getElem?_eq_some_iff.mp hx).1
    have hl := (R.store i ks e s' hJ).2
    refine wpAny_bind (wpAny_attempt (wpAny_mono (R.turn i x ks e s' hx hJ) (fun k s'' hk => ?_) fun _ _ hF => hF.elim))
    obtain ⟨hk1, hk2⟩ := hk
    have pk : (List.toArray ks).push k = List.toArray (ks ++ [k]) := by rw [List.push_toArray]
    obtain ⟨c2, hc2⟩ : ∃ c2, (s''.heap.update kS (Obj.mapSeq (·.push k))).get? kS = some (seqObj "list" (List.toArray (ks ++ [k])) c2) := ⟨_, by rw [← pk]; exact get?_update_seq hk1 (·.push k)⟩
    try dsimp only
    refine wpAny_bind (listUpdate_at hk1 rfl ?_ (by rw [List.size_toArray, sizeLine_eq]; omega) (Nat.le_trans (Nat.le_of_eq (Array.size_push ..)) (by rw [List.size_toArray, sizeLine_eq]; omega)))
    exact wpAny_pure ⟨rfl, k, c2, hk2 c2 hc2⟩
  · obtain ⟨ks, e, hJ⟩ := hd
    obtain ⟨hk, hl⟩ := R.store _ _ _ _ hJ
    try dsimp only
    refine wpAny_bind (listItems_at hk rfl ?_)
    exact keyed_end hl h64 nak hk (R.fin ks e s' hJ)
theorem keyed_tree {n : Nat} {P : PySem.Fin → Shared → Prop} (hg : Keeps g s.heap) (ga : g.objs.size ≤ a) (ho : s.heap.get? a = some (seqObj "list" vs.toArray n)) (h64 : vs.length < 64)
    (h : ∀ kS e1 h', Keeps g h' → a < kS → h'.get? a = some (seqObj "list" #[] e1) → h'.get? kS = some (seqObj "list" #[] 0) → ∃ J, KeyRun prog w A a kS e1 f vs P J ∧ J 0 [] 0 { s with heap := h' }) :
    wpAny (model prog w) A (ksk_tree a f false) P E s := by
  have zl : vs.length ≤ sizeLine := Nat.le_trans (Nat.le_of_lt h64) (by decide)
  have k1 : Keeps g (s.heap.update a (Obj.mapSeq fun _ => (#[] : Array Value))) := hg.upd ga
  obtain ⟨c1, o1⟩ : ∃ c1, (s.heap.update a (Obj.mapSeq fun _ => (#[] : Array Value))).get? a = some (seqObj "list" #[] c1) := ⟨_, get?_update_seq ho _⟩
  have k3 := (k1.push (seqObj "tuple" vs.toArray 0)).push (seqObj "list" #[] 0)
  have o3 := Heap.get?_push_of_some (seqObj "list" #[] 0) (Heap.get?_push_of_some (seqObj "tuple" vs.toArray 0) o1)
  have lt : a < ((s.heap.update a (Obj.mapSeq fun _ => (#[] : Array Value))).push (seqObj "tuple" vs.toArray 0)).objs.size := Heap.lt_size (Heap.get?_push_of_some _ o1)
  obtain ⟨J, R, h0⟩ := h _ c1 _ k3 lt o3 (Heap.get?_push_size _ rfl)
  unfold ksk_tree
  refine wpAny_bind (listItems_at ho rfl (wpAny_bind (listUpdate_at ho rfl (wpAny_bind (seqEpoch_at o1 rfl (wpAny_bind (wpAny_newTuple (wpAny_bind (wpAny_newList (wpAny_holding ?_) (Nat.zero_le _))) zl)))) zl (Nat.zero_le _))))
  exact keyed_rest (s := { s with heap := ((s.heap.update a (Obj.mapSeq fun _ => (#[] : Array Value))).push (seqObj "tuple" vs.toArray 0)).push (seqObj "list" #[] 0) }) R h64 (Nat.ne_of_lt lt) h0
theorem sortedK_at {l fa : Addr} {Q : Value → Shared → Prop} (hl : s.heap.IsList l vs.toArray) (h64 : vs.length < 64)
    (h : ∀ D kS e1 h', D = s.heap.objs.size + 1 → Keeps s.heap h' → D < kS → h'.get? D = some (seqObj "list" #[] e1) → h'.get? kS = some (seqObj "list" #[] 0) → ∃ J, KeyRun prog w A.in1.in1 D kS e1 (.ref fa) vs (fun r s' => r = .done (.ret .none) → Q (.ref D) s') J ∧ J 0 [] 0 { s with heap := h' }) :
    wpAny (model prog w) A (call (.builtin "sorted") [.ref l] [(Str.ofString "key", .ref fa)]) Q E s := by
  have zl : vs.length ≤ sizeLine := Nat.le_trans (Nat.le_of_lt h64) (by decide)
  have k0 : Keeps s.heap s.heap := fun _ _ e => e
  have k2 := ((k0.push (seqObj "list" #[] 0)).upd (a := s.heap.objs.size) (f := Obj.mapSeq (· ++ vs.toArray)) (Nat.le_refl _)).push (seqObj "list" vs.toArray 0)
  have z2 : ((s.heap.push (seqObj "list" #[] 0)).update s.heap.objs.size (Obj.mapSeq (· ++ vs.toArray))).objs.size = s.heap.objs.size + 1 := by
    rw [Heap.size_update, size_push']
  have o2 : (((s.heap.push (seqObj "list" #[] 0)).update s.heap.objs.size (Obj.mapSeq (· ++ vs.toArray))).push (seqObj "list" vs.toArray 0)).get? (s.heap.objs.size + 1) = some (seqObj "list" vs.toArray 0) :=
    z2 ▸ Heap.get?_push_size _ rfl
  refine call_function_entry_kw kind_sorted plain_sorted entry_sorted (ksk_s1 _ _) ?_
  unfold Builtin.«sorted»
  refine wpAny_bind (m := checkCount _ _ _ _) (wpAny_pure (wpAny_bind (collect_list hl (wpAny_bind (wpAny_newList ?_ zl)) zl)))
  rw [show (({ s with heap := (s.heap.push (seqObj "list" #[] 0)).update s.heap.objs.size (Obj.mapSeq (· ++ vs.toArray)) } : Shared).heap.objs.size) = s.heap.objs.size + 1 from z2]
  refine wpAny_bind (wpAny_holding (wpAny_call_entry_kw slot_list_sort ⟨_, o2, rfl⟩ entry_list_sort ?body (ksk_l1 _ _)))
  case body =>
    show wpAny (model prog w) A.in1.in1 (Builtin.«list.sort» ⟨[.ref (s.heap.objs.size + 1)], [(Str.ofString "key", .ref fa)]⟩) _ _ _
    rw [ksk_t1]
    refine wpAny_mono (keyed_tree (s := { s with heap := ((s.heap.push (seqObj "list" #[] 0)).update s.heap.objs.size (Obj.mapSeq (· ++ vs.toArray))).push (seqObj "list" vs.toArray 0) }) (P := fun r s' => r = .done (.ret .none) ∧ (r = .done (.ret .none) → Q (.ref (s.heap.objs.size + 1)) s')) k2 (Nat.le_succ _) o2 h64 fun kS e1 h' kk lt ha hk => ?_) (fun r s' hq => ?_) fun _ _ z => z
    · obtain ⟨J, R, h0⟩ := h _ kS e1 h' rfl kk lt ha hk
      refine ⟨J, ⟨R.store, R.turn, fun ks e s' hJ => ?_⟩, h0⟩
      obtain ⟨f1, κ, ans, f2, f3, f4⟩ := R.fin ks e s' hJ
      exact ⟨f1, κ, ans, f2, f3, fun p or ep => ⟨rfl, f4 p or ep⟩⟩
    · obtain ⟨rfl, hq⟩ := hq
      exact ⟨_, rfl, wpAny_pure ⟨_, rfl, hq rfl⟩⟩
end
end L2
set_option Elab.async false
set_option linter.all false
set_option maxRecDepth 100000
set_option maxHeartbeats 4000000
namespace L2
open PySem PySem.Spec PyProof.Rows
open PySem.W (kla_fn kla_obj envX tabObj CodeHd KasT kas_sort kas_ask)
def ltK (a b : Int × Int) : Bool := if a.1 = b.1 then (if a.2 = b.2 then false else decide (a.2 < b.2)) else decide (a.1 < b.1)
section
variable {prog : Program} {w : World} {A : Around} {E : Value → Shared → Prop} {s : Shared} {C : Bool → Shared → Prop}
theorem eq_ii {a b : Int} {t u : Tok} (hu : A.units + 64 < cLine) (q : C (decide (a = b)) s) : wpAny (model prog w) A (eqBool (.int a t) (.int b u)) C E s := by
  refine PySem.SeqAt.eqBoolOverData prog w A E s _ _ (.int a) (.int b) _ _ C (.int a t) (.int b u) rfl rfl ?_ ?_
  · have : PyData.depth (.int a) ≤ 1 := by simp [PyData.depth]
    have := Nat.min_le_left (PyData.depth (.int a)) (PyData.depth (.int b))
    omega
  · simp only [PyData.eqv]
    by_cases h : a = b
    · rw [decide_eq_true h] at q
      simpa [h] using q
    · rw [decide_eq_false h] at q
      have : (a == b) = false := beq_eq_false_iff_ne.mpr h
      rw [this]
      exact q
theorem lt_pairI {x y : Value} {a b : Int × Int} (hx : TupI s.heap x [a.1, a.2]) (hy : TupI s.heap y [b.1, b.2]) (hu : A.units + 64 < cLine) (q : C (ltK a b) s) : wpAny (model prog w) A (keyLt' (tuples' true) x y) C E s := by
  obtain ⟨p, its, n, dd, sl, rfl, o, i⟩ := hx
  obtain ⟨p', its', n', dd', sl', rfl, o', i'⟩ := hy
  obtain ⟨u1, u2, e, t1, t2⟩ : ∃ u1 u2, its.toList = [u1, u2] ∧ (∃ t, u1 = .int a.1 t) ∧ ∃ t, u2 = .int a.2 t := by
    revert i
    generalize its.toList = l
    intro i
    cases i with
    | cons k t r =>
      cases r with
      | cons k2 t2 r2 =>
        cases r2
        exact ⟨_, _, rfl, ⟨_, rfl⟩, ⟨_, rfl⟩⟩
  obtain ⟨u1', u2', e', t1', t2'⟩ : ∃ u1 u2, its'.toList = [u1, u2] ∧ (∃ t, u1 = .int b.1 t) ∧ ∃ t, u2 = .int b.2 t := by
    revert i'
    generalize its'.toList = l
    intro i
    cases i with
    | cons k t r =>
      cases r with
      | cons k2 t2 r2 =>
        cases r2
        exact ⟨_, _, rfl, ⟨_, rfl⟩, ⟨_, rfl⟩⟩
  obtain ⟨t1, rfl⟩ := t1
  obtain ⟨t2, rfl⟩ := t2
  obtain ⟨t1', rfl⟩ := t1'
  obtain ⟨t2', rfl⟩ := t2'
  have z : its.size = 2 := by rw [← Array.length_toList, e]; rfl
  have z' : its'.size = 2 := by rw [← Array.length_toList, e']; rfl
  refine PySem.W.kat_lt o rfl o' rfl ?_
  rw [e, e', z, z', decide_eq_false (by omega)]
  unfold ltK at q
  refine PySem.W.kat_cons (eq_ii hu ?_)
  by_cases c : a.1 = b.1
  · rw [if_pos c] at q
    rw [decide_eq_true c]
    refine PySem.W.kat_yes (PySem.W.kat_cons (eq_ii hu ?_))
    by_cases c2 : a.2 = b.2
    · rw [if_pos c2] at q
      rw [decide_eq_true c2]
      exact PySem.W.kat_yes (PySem.W.kat_nil q)
    · rw [if_neg c2] at q
      rw [decide_eq_false c2]
      exact PySem.W.kat_no (PySem.W.kat_one _ _ (PyProof.Rows.lt_int q))
  · rw [if_neg c] at q
    rw [decide_eq_false c]
    exact PySem.W.kat_no (oneLt_int q)
end
open PySem.W (KatTups) in
theorem ktupsI {h : Heap} : ∀ vs : List Value, (∀ v, v ∈ vs → ∃ a : Int × Int, TupI h v [a.1, a.2]) → ∃ fs, fs.length = vs.length ∧ KatTups h vs fs ∧ ∀ f, f ∈ fs → ∃ n t, f = .int n t
  | [], _ => ⟨[], rfl, .nil, fun f hf => by cases hf⟩
  | v :: vs, hv => by
    obtain ⟨fs, l, t, r⟩ := ktupsI vs fun u hu => hv u (List.mem_cons_of_mem _ hu)
    obtain ⟨a, p, its, n, dd, sl, rfl, o, i⟩ := hv v (List.mem_cons_self ..)
    obtain ⟨u1, t1, e⟩ : ∃ u1 t, its[0]? = some u1 ∧ u1 = .int a.1 t := by
      rw [← Array.getElem?_toList]
      revert i
      generalize its.toList = l
      intro i
      cases i with
      | cons k t r => exact ⟨_, t, rfl, rfl⟩
    refine ⟨u1 :: fs, by simp [l], .cons o rfl rfl e.1 t, fun f hf => ?_⟩
    rcases List.mem_cons.mp hf with rfl | hf
    · exact ⟨_, t1, e.2⟩
    · exact r f hf
theorem kind_ints {M : Model} {A : Around} {E : Value → Shared → Prop} {s : Shared} {vs : List Value} {Q : SortKind → Shared → Prop} (hn : 0 < vs.length) (hv : ∀ v, v ∈ vs → ∃ a : Int × Int, TupI s.heap v [a.1, a.2]) (q : Q (tuples' true) s) : wpAny M A (keyKind' vs.toArray) Q E s := by
  obtain ⟨fs, l, t, r⟩ := ktupsI vs hv
  refine PySem.W.kat_kind (T := .type "int") t (by omega) (fun f hf => ?_) (by decide) ?_
  · obtain ⟨n, t, rfl⟩ := r f hf
    exact .now
  · rw [show (Value.type "int" != Value.type "tuple") = true from by decide]
    exact q
section
variable {X : Cx} {pins : List (Addr × Obj)} {σ : St} {H : Hp} {s : Shared}
theorem Inv.track {D : Addr} {h' : Heap} {xs : List V} {its : List Value} {n : Nat} {t' : Nat} (I : Inv X pins σ H s) (hf : FpOk X pins H D) (k : ∀ b o, b ≠ D → s.heap.get? b = some o → h'.get? b = some o)
    (hz : xs.length ≤ sizeLine) (r : Vals xs its) (ho : h'.get? D = some { cls := .type "list", data := .seq its.toArray n }) : Inv X pins σ (upd H D (.lst xs)) { s with heap := h', toks := t' } := by
  obtain ⟨f0, f1, f2, f3, f4, f5⟩ := hf
  have nD : ∀ b u, H b = some u → b ≠ D := fun b u e z => by rw [z, f0] at e; cases e
  refine I.step (g' := s.gens) (d' := s.drawn) (ch := [D]) (fun b hb => ?_) (fun b o _ _ hc e _ => k b o (fun z => hc (by simp [z])) e) (fun b o _ _ hc e _ => ⟨o.slots, k b o (fun z => hc (by simp [z])) e⟩) (fun b o hc _ n => by rw [upd_ne fun z => hc (by simp [z])]; exact n)
    (fun b o hc e => ⟨o, k b o (fun z => hc (by simp [z])) e⟩) (fun b xs e => by rw [upd_ne (nD b _ e)]; exact e) (fun b o u e => by rw [upd_ne (nD b _ e)]; exact e) (fun b ps e => ⟨#[], by rw [upd_ne (nD b _ e), e]; simp⟩) (fun m hm => ?_) (fun b u e => ?_) I.bare
  · have e : b = D := by simpa using hb
    subst e
    exact ⟨f3, f1, f4, f5⟩
  · obtain ⟨o, es, ep, ho, r⟩ := hm
    exact ⟨o, es, ep, k _ o f1.symm ho, r⟩
  · by_cases z : b = D
    · subst z
      rw [upd_same] at e
      cases e
      exact ⟨hz, its, n, r, ho⟩
    · rw [upd_ne z] at e
      refine (I.hok b u e).stay (fun c v hc q => k c v ?_ q) (fun c q => by rw [upd_ne (nD c _ q)]; exact q) fun c xs q => by rw [upd_ne (nD c _ q)]; exact q
      rcases hc with rfl | hc
      · exact z
      · exact nD c _ hc
theorem cell_of {y : Str} {c : Addr} {i : Nat} {vy : V} (I : Inv X pins σ H s) (hN : X.N[i]? = some y) (hσ : σ[i]? = some (some vy)) (hk : X.env.scope.names.lookup y = some .cell) (hc : X.env.cells.lookup y = some c) : ∃ u, RelV vy u ∧ s.heap.IsCell c (some u) := by
  obtain ⟨m, hn, hl⟩ := I.loc
  obtain ⟨u, r, l⟩ := hl i y vy hN hσ (.inr (.inl hk))
  refine ⟨u, r, ?_⟩
  rcases l with ⟨l, _⟩ | ⟨_, c', e, z⟩
  · have l : X.env.scope.names.lookup y = some .local := l
    rw [hk] at l
    cases l
  · rw [hc] at e
    cases e
    exact z
end
end L2
set_option Elab.async false
set_option linter.all false
set_option maxRecDepth 100000
set_option maxHeartbeats 4000000
namespace L2
open PySem PySem.Spec PyProof.Rows
open PySem.W (kla_fn kla_obj envX tabObj CodeHd KasT kas_sort kas_ask)
def KOk (H : Hp) (zs : List V) (kp : Nat → Int × Int) : Prop := ∀ i, i < zs.length → ∃ q, zs[i]? = some (.ref q) ∧ H q = some (.tup [.int (kp i).1, .int (kp i).2])
abbrev KPT := Hp → List V → (Nat → Nat → Bool) → Prop
def KeyKP (X : Cx) (KP : KPT) : Prop := ∀ (pins : List (Addr × Obj)) (σ : St) (H : Hp) (s : Shared) (zs : List V) (ks : List Value) (ans : Nat → Nat → Bool), Inv X pins σ H s → Vals zs ks → KP H zs ans → ∃ κ : SortKind,
  (2 ≤ ks.length → ∀ Q' : SortKind → Shared → Prop, Q' κ s → wpAny (model X.prog X.w) X.A.in1.in1 (keyKind' ks.toArray) Q' (fun _ _ => False) s) ∧ (2 ≤ ks.length → ∀ i j C, i < ks.length → j < ks.length → C (ans i j) s → kas_ask X.prog X.w X.A.in1.in1 κ ks i j C s)
def KPp : KPT := fun H zs ans => ∃ kp, KOk H zs kp ∧ ans = fun i j => ltK (kp i) (kp j)
structure KeyR (KP : KPT) (te : TE) (vy : V) (c' : Addr) (q : Str) (vs : List V) (H : Hp) (Q : VK) (Pv : Nat → List V → Hp → Prop) : Prop where
  start : Pv 0 [] H
  code : ∀ i zs H', Pv i zs H' → H' c' = some (codeX c' q)
  len : ∀ i zs H', Pv i zs H' → zs.length = i
  turn : ∀ i zs H' v, vs[i]? = some v → Pv i zs H' → te [some v, some vy] H' fun k H'' => Pv (i + 1) (zs ++ [k]) H''
  fin : ∀ zs H', Pv vs.length zs H' → ∃ ans, KP H' zs ans ∧ ∀ D p, H' D = none → Ord vs.length p → (2 ≤ vs.length → p = ansT ans (kas_sort vs.length)) → Q (.ref D) (upd H' D (.lst (p.toList.map fun i => vs.getD i .non)))
section
variable {X : Cx} {pins : List (Addr × Obj)} {σ : St} {H : Hp} {s : Shared}
theorem vals_get? {xs : List V} {us : List Value} (r : Vals xs us) {i : Nat} {u : Value} (h : us[i]? = some u) : ∃ v, xs[i]? = some v ∧ RelV v u := by
  have hi : i < us.length := (List.getElem?_eq_some_iff.mp h).1
  have hx : i < xs.length := by rw [r.length]; exact hi
  refine ⟨xs[i], List.getElem?_eq_getElem hx, ?_⟩
  have z := vals_at r i hx
  have e1 : xs.getD i .non = xs[i] := by simp [hx]
  have e2 : us.getD i Value.none = u := by rw [List.getD_eq_getElem?_getD, h]; rfl
  rw [e1, e2] at z
  exact z
theorem vals_snoc : ∀ {xs : List V} {us : List Value} {v : V} {u : Value}, Vals xs us → RelV v u → Vals (xs ++ [v]) (us ++ [u])
  | _, _, _, _, .nil, r => .cons r .nil
  | _, _, _, _, .cons a t, r => .cons a (vals_snoc t r)
theorem keyKP_pairs (hu : X.A.units + 66 < cLine) : KeyKP X KPp := by
  intro pins σ H s zs ks ans I r h
  obtain ⟨kp, ok, rfl⟩ := h
  have len := r.length
  have tup : ∀ i, i < ks.length → TupI s.heap (ks.getD i Value.none) [(kp i).1, (kp i).2] := fun i hi => by
    obtain ⟨a, ea, ha⟩ := ok i (by omega)
    have z := vals_at r i (by omega)
    rw [List.getD_eq_getElem?_getD, ea] at z
    have z : RelV (.ref a) (ks.getD i Value.none) := z
    have e : ks.getD i Value.none = .ref a := by cases h : ks.getD i Value.none <;> rw [h] at z <;> first | (cases z; rfl) | cases z
    rw [e]
    exact tupI_of I (ns := [(kp i).1, (kp i).2]) ha
  refine ⟨tuples' true, fun h2 Q' q' => kind_ints (by omega) (fun v hv => ?_) q', fun h2 i j C hi hj cc => lt_pairI (tup i hi) (tup j hj) (by show X.A.units + 1 + 1 + 64 < _; omega) cc⟩
  obtain ⟨i, hi, e⟩ := List.mem_iff_getElem.mp hv
  refine ⟨kp i, ?_⟩
  have t := tup i hi
  have e' : ks.getD i Value.none = v := by simp [hi, e]
  rw [e'] at t
  exact t
theorem sortK_run {KP : KPT} {k i0 : Nat} {x y ql : Str} {params : Arguments} {body : Expr} {sc : Scope} {fa c c' l : Addr} {pm ctv : Value} {vy : V} {vs : List V} {te : TE} {Q : VK} {Pv : Nat → List V → Hp → Prop} (I : Inv X pins σ H s) (hKP : KeyKP X KP) (hr : Room (k + 2) X.A) (S : LamScope x y sc)
    (hN : X.N[i0]? = some y) (hσ : σ[i0]? = some (some vy)) (hk : X.env.scope.names.lookup y = some .cell) (hcl : X.env.cells.lookup y = some c) (hfa : FpOk X pins H fa) (hfo : s.heap.get? fa = some (kla_obj "<lambda>" ql params body sc [(y, c)] pm c' ctv))
    (hbind : ∀ u, bindArgs (kla_fn "<lambda>" ql params body sc [(y, c)] pm (.ref c') ctv) ⟨[u], []⟩ = pure [(x, u)]) (hbody : ∀ (A : Around) (s : Shared) (H : Hp), A.units + 64 < cLine → PE (cxLam X.prog X.w X.K X.mg X.base x y ql sc fa (.ref c') c A X.stack s H) body te)
    (hl : H l = some (.lst vs)) (h64 : vs.length < 64) (R : KeyR KP te vy c' ql vs H Q Pv) : wpAny (model X.prog X.w) X.A (call (.builtin "sorted") [.ref l] [(Str.ofString "key", .ref fa)]) (EP X pins σ Q) X.xe s := by
  obtain ⟨its, rv, pl, hz⟩ := I.list (.of hl)
  have len : vs.length = its.length := rv.length
  have un := hr.un
  refine sortedK_at (vs := its) pl.isList (by omega) fun D kS e1 h' eD kk lt hD hkS => ?_
  have sD : s.heap.objs.size ≤ D := by omega
  have sK : s.heap.objs.size ≤ kS := by omega
  have fD := I.fpOk sD (I.hok.fresh sD)
  have fK := I.fpOk sK (I.hok.fresh sK)
  have faD : fa ≠ D := Nat.ne_of_lt (Nat.lt_of_lt_of_le (Heap.lt_size hfo) sD)
  have faK : fa ≠ kS := Nat.ne_of_lt (Nat.lt_of_lt_of_le (Heap.lt_size hfo) sK)
  have DK : D ≠ kS := Nat.ne_of_lt lt
  have nseq : ∀ (b : Array Value) (m : Nat) (v : Option Value), (seqObj "list" b m).data ≠ .cell v := fun b m v z => nomatch (show Data.seq b m = Data.cell v from z)
  have nfun : ∀ v, (kla_obj "<lambda>" ql params body sc [(y, c)] pm c' ctv).data ≠ .cell v := fun v z => nomatch (show Data.func _ = Data.cell v from z)
  -- the three objects that stand beside what is tracked
  have pin3 : ∀ {ks : List Value} {e : Nat} {H' : Hp} {s' : Shared}, Inv X pins σ H' s' → H' fa = none → H' D = none → H' kS = none → s'.heap.get? fa = some (kla_obj "<lambda>" ql params body sc [(y, c)] pm c' ctv) → s'.heap.get? D = some (seqObj "list" #[] e1) → s'.heap.get? kS = some (seqObj "list" ks.toArray e) →
      Inv X (pins ++ [(fa, kla_obj "<lambda>" ql params body sc [(y, c)] pm c' ctv), (D, seqObj "list" #[] e1), (kS, seqObj "list" ks.toArray e)]) σ H' s' := fun {ks e H' s'} J n1 n2 n3 o1 o2 o3 => by
    refine J.pins_of fun p hp => ?_
    rcases List.mem_append.mp hp with hp | hp
    · exact J.pin p (List.mem_append_right _ hp)
    · simp only [List.mem_cons, List.not_mem_nil, or_false] at hp
      rcases hp with rfl | rfl | rfl
      · exact ⟨o1, n1, hfa.2.1, hfa.2.2.1, nfun⟩
      · exact ⟨o2, n2, fD.2.1, fD.2.2.1, nseq _ _⟩
      · exact ⟨o3, n3, fK.2.1, fK.2.2.1, nseq _ _⟩
  have of3 : ∀ {ks : List Value} {e : Nat} {H' : Hp} {s' : Shared}, Inv X (pins ++ [(fa, kla_obj "<lambda>" ql params body sc [(y, c)] pm c' ctv), (D, seqObj "list" #[] e1), (kS, seqObj "list" ks.toArray e)]) σ H' s' →
      Inv X pins σ H' s' ∧ (H' fa = none ∧ H' D = none ∧ H' kS = none) ∧ s'.heap.get? fa = some (kla_obj "<lambda>" ql params body sc [(y, c)] pm c' ctv) ∧ s'.heap.get? D = some (seqObj "list" #[] e1) ∧ s'.heap.get? kS = some (seqObj "list" ks.toArray e) := fun {ks e H' s'} J => by
    have p1 := J.pin (fa, kla_obj "<lambda>" ql params body sc [(y, c)] pm c' ctv) (List.mem_append_right _ (List.mem_append_right _ (by simp)))
    have p2 := J.pin (D, seqObj "list" #[] e1) (List.mem_append_right _ (List.mem_append_right _ (by simp)))
    have p3 := J.pin (kS, seqObj "list" ks.toArray e) (List.mem_append_right _ (List.mem_append_right _ (by simp)))
    exact ⟨J.unpinned, ⟨p1.2.1, p2.2.1, p3.2.1⟩, p1.1, p2.1, p3.1⟩
  refine ⟨fun i ks e s' => ∃ H' zs, Inv X (pins ++ [(fa, kla_obj "<lambda>" ql params body sc [(y, c)] pm c' ctv), (D, seqObj "list" #[] e1), (kS, seqObj "list" ks.toArray e)]) σ H' s' ∧ Vals zs ks ∧ Pv i zs H', ⟨fun i ks e s' hJ => ?_, fun i u ks e s' hu hJ => ?_, fun ks e s' hJ => ?_⟩, H, [], ?_, .nil, R.start⟩
  · obtain ⟨H', zs, J, r, p⟩ := hJ
    exact ⟨(of3 J).2.2.2.2, by rw [← r.length]; exact R.len _ _ _ p⟩
  · obtain ⟨H', zs, J, r, p⟩ := hJ
    obtain ⟨J0, ⟨n1, n2, n3⟩, o1, o2, o3⟩ := of3 J
    obtain ⟨v, hv, ru⟩ := vals_get? rv hu
    obtain ⟨uy, ry, hcell⟩ := cell_of J hN hσ hk hcl
    have hcd : s'.heap.CodeRec (.ref c') ql := (J.hok c' _ (R.code _ _ _ p)).1
    refine wpAny_mono (lam_run J J.env0.in1.in1 (hr.in1.in1) S o1 hcd (hbind u) ru ry hcell (J.freeC _ _ hcl) (hbody _ s' H' (by show X.A.units + 1 + 1 + 64 < cLine; omega)) (R.turn i zs H' v hv p)) (fun u' s'' hs => ?_) fun _ _ z => z
    obtain ⟨kv, H'', J', rk, p'⟩ := hs
    obtain ⟨J1, ⟨m1, m2, m3⟩, q1, q2, q3⟩ := of3 J'
    refine ⟨q3, fun c2 hc2 => ⟨H'', zs ++ [kv], ?_, vals_snoc r rk, p'⟩⟩
    have J2 : Inv X pins σ H'' { s'' with heap := s''.heap.update kS (Obj.mapSeq (·.push u')), toks := s''.toks } := J1.turned (it := kS) (fun b o hb e => by rw [Heap.get?_update_ne _ _ _ _ hb]; exact e) m3 fK.2.1 fK.2.2.2.1 fK.2.2.2.2.1 fK.2.2.2.2.2
    exact pin3 J2 m1 m2 m3 (by show (s''.heap.update kS _).get? fa = _; rw [Heap.get?_update_ne _ _ _ _ faK]; exact q1) (by show (s''.heap.update kS _).get? D = _; rw [Heap.get?_update_ne _ _ _ _ DK]; exact q2) hc2
  · obtain ⟨H', zs, J, r, p⟩ := hJ
    obtain ⟨J0, ⟨n1, n2, n3⟩, o1, o2, o3⟩ := of3 J
    rw [← len] at p
    obtain ⟨ans, ok, q⟩ := R.fin zs H' p
    have zl := R.len _ _ _ p
    have kl : ks.length = its.length := by rw [← r.length, zl, len]
    obtain ⟨κ, k1, k2⟩ := hKP _ _ _ _ _ _ _ J0 r ok
    rw [kl] at k1 k2
    refine ⟨o2, κ, ans, k1, k2, fun pm' or ep _ => ?_⟩
    · have J2 : Inv X pins σ H' { s' with heap := s'.heap.update kS (Obj.mapSeq fun _ => (#[] : Array Value)), toks := s'.toks } := J0.turned (it := kS) (fun b o hb e => by rw [Heap.get?_update_ne _ _ _ _ hb]; exact e) n3 fK.2.1 fK.2.2.2.1 fK.2.2.2.2.1 fK.2.2.2.2.2
      have o4 : (s'.heap.update kS (Obj.mapSeq fun _ => (#[] : Array Value))).get? D = some (seqObj "list" #[] e1) := by rw [Heap.get?_update_ne _ _ _ _ DK]; exact o2
      rw [← len] at or ep
      have lo : pm'.toList.length = vs.length := by rw [or.length_eq, List.length_range]
      obtain ⟨c5, o5⟩ : ∃ c5, ((s'.heap.update kS (Obj.mapSeq fun _ => (#[] : Array Value))).update D (Obj.mapSeq fun _ => List.toArray (pm'.toList.map fun i => its.getD i Value.none))).get? D = some (seqObj "list" (List.toArray (pm'.toList.map fun i => its.getD i Value.none)) c5) := ⟨_, get?_update_seq o4 _⟩
      refine ⟨.ref D, upd H' D (.lst (pm'.toList.map fun i => vs.getD i .non)), J2.track (t' := s'.toks) ⟨n2, fD.2⟩ (fun b o hb e => by rw [Heap.get?_update_ne _ _ _ _ hb]; exact e) ?_ (vals_map _ fun i hi => vals_at rv i ?_) o5, rfl, q D pm' n2 or ep⟩
      · rw [List.length_map, lo]
        exact Nat.le_trans (Nat.le_of_lt h64) (by decide)
      · exact List.mem_range.mp (or.mem_iff.mp hi)
  · have J0 : Inv X pins σ H { s with heap := h', toks := s.toks } := I.kept kk
    exact pin3 J0 hfa.1 (I.hok.fresh sD) (I.hok.fresh sK) (kk _ _ hfo) hD hkS
end
end L2
set_option Elab.async false
set_option linter.all false
set_option maxRecDepth 100000
set_option maxHeartbeats 4000000
namespace L2
open PySem PySem.Spec PyProof.Rows
open PySem.W (kla_fn kla_obj envX tabObj CodeHd KasT kas_sort kas_ask)
section
variable {X : Cx} {p pos lpos kpos : Pos} {e body : Expr} {params : Arguments} {sc : Scope} {x y : Str} {c c0 P : Addr} {i0 k : Nat} {te tl : TE}
def tSortK (KP : KPT) (P : Addr) (lpos : Pos) (ql : Str) (i0 : Nat) (te tl : TE) : TE := fun σ H Q => tCons tl tNil σ H fun xs H1 => ∃ l vs vy, xs = [.ref l] ∧ H1 l = some (.lst vs) ∧ vs.length < 64 ∧ σ[i0]? = some (some vy) ∧ LamTab H1 P lpos ql ∧
  ∀ c' H2, SameT P H1 H2 → LamTab H2 P lpos ql → H2 c' = some (codeX c' ql) → ∃ Pv, KeyR KP te vy c' ql vs H2 Q Pv
theorem pe_sortK {KP : KPT} (hKP : KeyKP X KP) (hr : Room (k + 2) X.A) (hg : Gl X "sorted") (hm : X.mg "sorted" = none) (ha : PA X [e] (tCons tl tNil)) (S : LamScope x y sc) (hN : X.N[i0]? = some y) (hk : X.env.scope.names.lookup y = some .cell) (hcl : X.env.cells.lookup y = some c)
    (hclos : closureFor sc X.env = pure [(y, c)]) (hdef : defaultsOf params X.env = ([], [])) (hcode : X.env.code = .ref c0) (C : CodeHd X.base c0 P) (hB : X.base.BuiltinsAt X.mg P)
    (hbind : ∀ (pm cd ctv u : Value), bindArgs (kla_fn "<lambda>" (X.env.qual ++ "<lambda>") params body sc [(y, c)] pm cd ctv) ⟨[u], []⟩ = pure [(x, u)])
    (hbody : ∀ (fa c' : Addr) (A : Around) (s : Shared) (H : Hp), A.units + 64 < cLine → PE (cxLam X.prog X.w X.K X.mg X.base x y (X.env.qual ++ "<lambda>") sc fa (.ref c') c A X.stack s H) body te)
    (he : backTo pos (starEach [e] X.env) = (false, eval e X.env) :: backTo pos (starEach [] X.env) := by rfl) (hpl : (backTo pos (starEach [e] X.env)).any (·.1) = false := by rfl) :
    PE X (.Call (.Name "sorted" p) [e] [⟨some "key", .Lambda params body sc lpos, kpos⟩] pos) (tSortK KP P lpos (X.env.qual ++ "<lambda>") i0 te tl) := by
  intro pins s σ H Q I h
  refine wpAny_Call_Name_kw (ld_blt I hg hm bt_sorted ?_)
  refine callWith_kw (thn (ha pos pins s σ H _ I h) fun us s1 ⟨vs', H1, I1, r1, q1⟩ => ?_) he hpl rfl rfl
  obtain ⟨l, vs, vy, ev, hl, h64, hσ, ht, q⟩ := q1
  subst ev
  obtain ⟨u, rfl, ru⟩ := vals1 r1
  cases ru
  refine kws_cons (lam_make (C := C) I1 hcode hB hclos hdef ht fun fa c' ctv H2 s2 I2 st lt hfo hc' ffa => kws_nil ?_)
  obtain ⟨Pv, R⟩ := q c' H2 st lt hc'
  have nl : l ≠ P := fun z => by
    obtain ⟨ps, hP, _⟩ := ht
    rw [z, hP] at hl
    cases hl
  exact sortK_run I2 hKP hr S hN hσ hk hcl ffa hfo (fun u => hbind _ _ _ u) (hbody fa c') (st l _ nl hl) h64 R
end
end L2
set_option Elab.async false
set_option linter.all false
set_option maxRecDepth 100000
set_option maxHeartbeats 4000000
namespace L2
open PySem PySem.Spec PyProof.Rows
section
variable {κ : Type} [DecidableEq κ]
def valV (kvs : List (κ × V)) (k : κ) : Option V := (kvs.find? fun kv => decide (kv.1 = k)).map (·.2)
def putK (kvs : List (κ × V)) (k : κ) (v : V) : List (κ × V) :=
  if (kvs.any fun kv => decide (kv.1 = k)) = true then kvs.map (fun kv => if kv.1 = k then (kv.1, v) else kv) else kvs ++ [(k, v)]
def dropK (kvs : List (κ × V)) (k : κ) : List (κ × V) := kvs.filter fun kv => decide (kv.1 ≠ k)
theorem valV_pos {p : κ × V} {r : List (κ × V)} {k : κ} (e : p.1 = k) : valV (p :: r) k = some p.2 := by simp [valV, List.find?_cons, e]
theorem valV_neg {p : κ × V} {r : List (κ × V)} {k : κ} (e : ¬ p.1 = k) : valV (p :: r) k = valV r k := by simp [valV, List.find?_cons, e]
theorem valV_any (k : κ) : ∀ kvs : List (κ × V), (kvs.any fun kv => decide (kv.1 = k)) = (valV kvs k).isSome
  | [] => rfl
  | p :: r => by
    rw [List.any_cons]
    by_cases e : p.1 = k
    · simp only [valV_pos e, decide_eq_true e, Bool.true_or, Option.isSome_some]
    · rw [valV_neg e, decide_eq_false e, Bool.false_or]; exact valV_any k r
theorem valV_map (k j : κ) (y : V) : ∀ kvs : List (κ × V), valV (kvs.map fun kv => if kv.1 = k then (kv.1, y) else kv) j = (valV kvs j).map fun x => if j = k then y else x
  | [] => rfl
  | p :: r => by
    have ih := valV_map k j y r
    rw [List.map_cons]
    by_cases h : p.1 = k
    · rw [if_pos h]
      by_cases e : p.1 = j
      · rw [valV_pos (p := (p.1, y)) e, valV_pos e, Option.map_some, if_pos (e.symm.trans h)]
      · rw [valV_neg (p := (p.1, y)) e, valV_neg e, ih]
    · rw [if_neg h]
      by_cases e : p.1 = j
      · rw [valV_pos (p := p) e, valV_pos e, Option.map_some, if_neg (fun z => h (e.trans z))]
      · rw [valV_neg (p := p) e, valV_neg e, ih]
theorem valV_snoc (k j : κ) (y : V) : ∀ kvs : List (κ × V), valV kvs k = none → valV (kvs ++ [(k, y)]) j = if j = k then some y else valV kvs j
  | [], _ => by
    by_cases e : k = j
    · rw [if_pos e.symm]; exact valV_pos (p := (k, y)) e
    · rw [if_neg (fun z => e z.symm)]; exact valV_neg (p := (k, y)) e
  | p :: r, hn => by
    rw [List.cons_append]
    have hk : ¬ p.1 = k := fun z => by rw [valV_pos z] at hn; cases hn
    rw [valV_neg hk] at hn
    have ih := valV_snoc k j y r hn
    by_cases e : p.1 = j
    · rw [valV_pos e, valV_pos e, if_neg (fun z => hk (e.trans z))]
    · rw [valV_neg e, valV_neg e, ih]
theorem valV_put (kvs : List (κ × V)) (k j : κ) (y : V) : valV (putK kvs k y) j = if j = k then some y else valV kvs j := by
  unfold putK
  by_cases a : (kvs.any fun kv => decide (kv.1 = k)) = true
  · rw [if_pos a, valV_map]
    rw [valV_any] at a
    by_cases e : j = k
    · obtain ⟨x, hx⟩ := Option.isSome_iff_exists.mp a
      rw [if_pos e, e, hx, Option.map_some, if_pos rfl]
    · rw [if_neg e]
      cases valV kvs j with
      | none => rfl
      | some x => rw [Option.map_some, if_neg e]
  · rw [if_neg a]
    refine valV_snoc k j y kvs ?_
    rw [valV_any] at a
    cases q : valV kvs k with
    | none => rfl
    | some x => rw [q] at a; exact (a rfl).elim
theorem length_putK (kvs : List (κ × V)) (k : κ) (v : V) : (putK kvs k v).length ≤ kvs.length + 1 := by
  unfold putK
  split
  · rw [List.length_map]; omega
  · rw [List.length_append, List.length_cons, List.length_nil]; omega
theorem putK_new {kvs : List (κ × V)} {k : κ} (v : V) (h : valV kvs k = none) : putK kvs k v = kvs ++ [(k, v)] := by
  unfold putK
  rw [valV_any, h]
  exact if_neg (by decide)
theorem RelO.isSome_eq {o : Option V} {u : Option Value} (r : RelO o u) : o.isSome = u.isSome := by
  cases o with
  | none => cases u with
    | none => rfl
    | some _ => exact (show False from r).elim
  | some _ => cases u with
    | none => exact (show False from r).elim
    | some _ => rfl
theorem RelO.getD {o : Option V} {u : Option Value} {d : V} {d' : Value} (r : RelO o u) (rd : RelV d d') : RelV (o.getD d) (u.getD d') := by
  cases o with
  | none => cases u with
    | none => exact rd
    | some _ => exact (show False from r).elim
  | some _ => cases u with
    | none => exact (show False from r).elim
    | some _ => exact r
theorem KV.val {kvs : List (κ × V)} {vs : List (κ × Value)} (r : KV kvs vs) (k : κ) : RelO (valV kvs k) (valueAt vs k) := by
  unfold KV at r
  induction r with
  | nil => exact True.intro
  | @cons p q ps qs h t ih =>
    obtain ⟨h1, h2⟩ := h
    by_cases e : p.1 = k
    · have e' : q.1 = k := h1.symm.trans e
      have b : valueAt (q :: qs) k = some q.2 := by simp [valueAt, List.find?_cons, e']
      rw [valV_pos e, b]; exact h2
    · have e' : ¬ q.1 = k := fun z => e (h1.trans z)
      have b : valueAt (q :: qs) k = valueAt qs k := by simp [valueAt, List.find?_cons, e']
      rw [valV_neg e, b]; exact ih
theorem KV.any {kvs : List (κ × V)} {vs : List (κ × Value)} (r : KV kvs vs) (k : κ) : (kvs.any fun kv => decide (kv.1 = k)) = vs.any fun kv => decide (kv.1 = k) := by
  unfold KV at r
  induction r with
  | nil => rfl
  | cons h t ih => rw [List.any_cons, List.any_cons, ih, h.1]
theorem KV.repl {kvs : List (κ × V)} {vs : List (κ × Value)} (r : KV kvs vs) (k : κ) {y : V} {u : Value} (ry : RelV y u) :
    KV (kvs.map fun kv => if kv.1 = k then (kv.1, y) else kv) (vs.map fun kv => if kv.1 = k then (kv.1, u) else kv) := by
  unfold KV at r ⊢
  induction r with
  | nil => exact .nil
  | @cons p q ps qs h t ih =>
    rw [List.map_cons, List.map_cons]
    refine .cons ?_ ih
    obtain ⟨h1, h2⟩ := h
    by_cases e : p.1 = k
    · rw [if_pos e, if_pos (h1.symm.trans e)]; exact ⟨h1, ry⟩
    · rw [if_neg e, if_neg (fun z => e (h1.trans z))]; exact ⟨h1, h2⟩
theorem KV.put {kvs : List (κ × V)} {vs : List (κ × Value)} (r : KV kvs vs) (k : κ) {y : V} {u : Value} (ry : RelV y u) : KV (putK kvs k y) (stored vs k u) := by
  unfold putK stored
  rw [r.any k]
  by_cases e : (vs.any fun kv => decide (kv.1 = k)) = true
  · rw [if_pos e, if_pos e]; exact r.repl k ry
  · rw [if_neg e, if_neg e]; exact Paired.snoc r ⟨rfl, ry⟩
theorem KV.drop {kvs : List (κ × V)} {vs : List (κ × Value)} (r : KV kvs vs) (k : κ) : KV (dropK kvs k) (without vs k) := by
  unfold KV at r ⊢
  unfold dropK without
  induction r with
  | nil => exact .nil
  | @cons p q ps qs h t ih =>
    obtain ⟨h1, h2⟩ := h
    rw [List.filter_cons, List.filter_cons]
    by_cases e : p.1 = k
    · have a : ¬ decide (p.1 ≠ k) = true := by simp [e]
      have b : ¬ decide (q.1 ≠ k) = true := by simp [h1.symm.trans e]
      rw [if_neg a, if_neg b]; exact ih
    · have e' : ¬ q.1 = k := fun z => e (h1.trans z)
      have a : decide (p.1 ≠ k) = true := by simp [e]
      have b : decide (q.1 ≠ k) = true := by simp [e']
      rw [if_pos a, if_pos b]; exact .cons ⟨h1, h2⟩ ih
theorem KV.keys {kvs : List (κ × V)} {vs : List (κ × Value)} (r : KV kvs vs) : kvs.map (·.1) = vs.map (·.1) := by
  unfold KV at r
  induction r with
  | nil => rfl
  | cons h t ih => rw [List.map_cons, List.map_cons, ih, h.1]
theorem KV.length {kvs : List (κ × V)} {vs : List (κ × Value)} (r : KV kvs vs) : kvs.length = vs.length := Paired.length r
end
theorem kV_is {P : Program} {w : World} {k : Key} {u : Value} (r : RelV (kV k) u) : (mixKind P w).is k u = true := by
  cases k with
  | inl i => obtain ⟨t, e⟩ := (show ∃ t, u = Value.int i t from r); subst e; exact mixKind_int P w i t
  | inr x => obtain ⟨t, e⟩ := (show ∃ t, u = Value.str x t from r); subst e; exact mixKind_str P w x t
theorem items_are {P : Program} {w : World} : ∀ {ks : List Key} {us : List Value}, Vals (ks.map kV) us → ItemsAre (mixKind P w) ks us
  | [], _, r => by rw [List.map_nil] at r; cases r; exact .nil
  | k :: ks, _, r => by
    rw [List.map_cons] at r
    cases r with
    | cons h t => exact .cons (kV_is h) (items_are t)
abbrev KT (H : Hp) : List (List Key × V) → List (List Key × Addr × Value) → Prop := Paired fun p q => p.1 = q.1 ∧ H q.2.1 = some (.tup (p.1.map kV)) ∧ RelV p.2 q.2.2
theorem KT.val {H : Hp} {kvs : List (List Key × V)} {xs : List (List Key × Addr × Value)} (r : KT H kvs xs) (k : List Key) : RelO (valV kvs k) ((atKey xs k).map (·.2)) := by
  induction r with
  | nil => exact True.intro
  | @cons p q ps qs h t ih =>
    obtain ⟨h1, _, h2⟩ := h
    by_cases e : p.1 = k
    · have e' : q.1 = k := h1.symm.trans e
      have b : atKey (q :: qs) k = some q.2 := by simp [atKey, List.find?_cons, e']
      rw [valV_pos e, b]; exact h2
    · have e' : ¬ q.1 = k := fun z => e (h1.trans z)
      have b : atKey (q :: qs) k = atKey qs k := by simp [atKey, List.find?_cons, e']
      rw [valV_neg e, b]; exact ih
theorem KT.repl {H : Hp} {kvs : List (List Key × V)} {xs : List (List Key × Addr × Value)} (r : KT H kvs xs) (k : List Key) {y : V} {u : Value} (ry : RelV y u) :
    KT H (kvs.map fun kv => if kv.1 = k then (kv.1, y) else kv) (xs.map (putAt k u)) := by
  induction r with
  | nil => exact .nil
  | @cons p q ps qs h t ih =>
    rw [List.map_cons, List.map_cons]
    refine .cons ?_ ih
    obtain ⟨h1, h2, h3⟩ := h
    unfold putAt
    by_cases e : p.1 = k
    · rw [if_pos e, if_pos (h1.symm.trans e)]; exact ⟨h1, h2, ry⟩
    · rw [if_neg e, if_neg (fun z => e (h1.trans z))]; exact ⟨h1, h2, h3⟩
theorem KT.put {H : Hp} {kvs : List (List Key × V)} {xs : List (List Key × Addr × Value)} (r : KT H kvs xs) (k : List Key) {b : Addr} {y : V} {u : Value} (hb : H b = some (.tup (k.map kV))) (ry : RelV y u) :
    KT H (putK kvs k y) (storedH xs k b u) := by
  have e : (kvs.any fun kv => decide (kv.1 = k)) = (atKey xs k).isSome := by
    rw [valV_any, (r.val k).isSome_eq, Option.isSome_map]
  unfold putK storedH
  rw [e]
  by_cases q : (atKey xs k).isSome = true
  · rw [if_pos q, if_pos q]; exact r.repl k ry
  · rw [if_neg q, if_neg q]; exact Paired.snoc r ⟨rfl, hb, ry⟩
theorem KT.keeps {H H' : Hp} {kvs : List (List Key × V)} {xs : List (List Key × Addr × Value)} (r : KT H kvs xs) (ht : ∀ b ys, H b = some (.tup ys) → H' b = some (.tup ys)) : KT H' kvs xs :=
  Paired.mapP r fun _ _ z => ⟨z.1, ht _ _ z.2.1, z.2.2⟩
section
variable {P : Program} {w : World} {H : Hp} {h : Heap} {a : Addr}
theorem rd_of {u : HO} (ok : HOk P w H h) (e : Rd H a u) : ObjOk P w H h a u := e.ok ok
theorem dk_rd {kvs : List (Key × V)} (ok : HOk P w H h) (e : Rd H a (.dK kvs)) : kvs.length ≤ sizeLine ∧ (a == sysModules) = false ∧ ∃ vs, KV kvs vs ∧ h.DictOf (mixKind P w) a vs :=
  show ObjOk P w H h a (.dK kvs) from rd_of ok e
theorem dk_of {kvs : List (Key × V)} (ok : HOk P w H h) (e : H a = some (.dK kvs)) : kvs.length ≤ sizeLine ∧ (a == sysModules) = false ∧ ∃ vs, KV kvs vs ∧ h.DictOf (mixKind P w) a vs := dk_rd ok (.inl e)
theorem key_of {ks : List Key} (ok : HOk P w H h) (e : H a = some (.tup (ks.map kV))) : (tupleKind (mixKind P w)).is h ks a := by
  obtain ⟨_, its, r, o, h1, h2, n, h3⟩ := (show ObjOk P w H h a (.tup (ks.map kV)) from ok a _ e)
  exact ⟨o, its.toArray, n, h1, h2, h3, by simpa using items_are r⟩
theorem dt_rd {kvs : List (List Key × V)} (ok : HOk P w H h) (e : Rd H a (.dT kvs)) : kvs.length ≤ sizeLine ∧ (a == sysModules) = false ∧
    ∃ xs, KT H kvs xs ∧ h.DictOfH (tupleKind (mixKind P w)) a xs := by
  obtain ⟨z, y, xs, r, o, es, ep, h1, h2, h3, h4, h5⟩ := (show ObjOk P w H h a (.dT kvs) from rd_of ok e)
  refine ⟨z, y, xs, r, o, es, ep, h1, h2, h3, h4, fun x hx => ?_, h5⟩
  have all : ∀ {l : List (List Key × V)} {m : List (List Key × Addr × Value)}, KT H l m → ∀ x ∈ m, (tupleKind (mixKind P w)).is h x.1 x.2.1 := by
    intro l m q
    induction q with
    | nil => intro x hx; exact nomatch hx
    | @cons p q ps qs hq t ih =>
      intro x hx
      rcases List.mem_cons.mp hx with e | hx
      · subst e
        exact key_of ok (by rw [← hq.1]; exact hq.2.1)
      · exact ih x hx
  exact all r x hx
theorem dt_of {kvs : List (List Key × V)} (ok : HOk P w H h) (e : H a = some (.dT kvs)) : kvs.length ≤ sizeLine ∧ (a == sysModules) = false ∧
    ∃ xs, KT H kvs xs ∧ h.DictOfH (tupleKind (mixKind P w)) a xs := dt_rd ok (.inl e)
end
def DGet (H : Hp) (a : Addr) (y : V) (r : Option V) : Prop :=
  (∃ kvs k, Rd H a (.dK kvs) ∧ y = kV k ∧ r = valV kvs k) ∨ ∃ kvs k b, Rd H a (.dT kvs) ∧ y = .ref b ∧ H b = some (.tup (k.map kV)) ∧ r = valV kvs k
def DPut (H : Hp) (a : Addr) (y v : V) (H' : Hp) : Prop :=
  (∃ kvs k, H a = some (.dK kvs) ∧ y = kV k ∧ kvs.length < sizeLine ∧ H' = upd H a (.dK (putK kvs k v))) ∨
  ∃ kvs k b, H a = some (.dT kvs) ∧ y = .ref b ∧ H b = some (.tup (k.map kV)) ∧ kvs.length < sizeLine ∧ H' = upd H a (.dT (putK kvs k v))
theorem DGet.k {H : Hp} {a : Addr} {kvs : List (Key × V)} {k : Key} (e : H a = some (.dK kvs)) : DGet H a (kV k) (valV kvs k) := .inl ⟨kvs, k, .inl e, rfl, rfl⟩
theorem DGet.t {H : Hp} {a b : Addr} {kvs : List (List Key × V)} {k : List Key} (e : H a = some (.dT kvs)) (eb : H b = some (.tup (k.map kV))) : DGet H a (.ref b) (valV kvs k) := .inr ⟨kvs, k, b, .inl e, rfl, eb, rfl⟩
theorem DPut.k {H : Hp} {a : Addr} {kvs : List (Key × V)} {k : Key} {v : V} (e : H a = some (.dK kvs)) (hl : kvs.length < sizeLine) : DPut H a (kV k) v (upd H a (.dK (putK kvs k v))) := .inl ⟨kvs, k, e, rfl, hl, rfl⟩
theorem DPut.t {H : Hp} {a b : Addr} {kvs : List (List Key × V)} {k : List Key} {v : V} (e : H a = some (.dT kvs)) (eb : H b = some (.tup (k.map kV))) (hl : kvs.length < sizeLine) :
    DPut H a (.ref b) v (upd H a (.dT (putK kvs k v))) := .inr ⟨kvs, k, b, e, rfl, eb, hl, rfl⟩
section
variable {X : Cx} {pins : List (Addr × Obj)} {σ : St} {H : Hp} {s : Shared} {a : Addr} {y v : V} {u r : Value} {o : Option V} {A : Around} {E : Value → Shared → Prop}
theorem Inv.big (I : Inv X pins σ H s) : sysModules < s.heap.objs.size := by
  have h : mainGlobals < s.heap.objs.size := (I.mod.glob.keeps I.bk).lt
  exact Nat.lt_trans (by decide) h
theorem d_getItem {Q : Value → Shared → Prop} (hu : A.units + 1 < cLine) (I : Inv X pins σ H s) (g : DGet H a y (some v)) (ry : RelV y u) (h : ∀ w' s', Inv X pins σ H s' → RelV v w' → Q w' s') :
    wpAny (model X.prog X.w) A (getItem (.ref a) u) Q E s := by
  rcases g with ⟨kvs, k, e, ey, l⟩ | ⟨kvs, k, b, e, ey, eb, l⟩
  · subst ey
    obtain ⟨z, hd, vs, rel, dd⟩ := dk_rd I.hok e
    obtain ⟨w', hw, rw'⟩ := RelO.some_of (v := v) (o := valueAt vs k) (by rw [l]; exact rel.val k)
    exact wpAny_getItem_of (kV_is ry) dd.mapOf hw (h w' _ (I.tok _) rw')
  · subst ey
    cases (show u = Value.ref b from ry)
    obtain ⟨z, hd, xs, rel, dd⟩ := dt_rd I.hok e
    obtain ⟨w', hw, rw'⟩ := RelO.some_of (v := v) (o := (atKey xs k).map (·.2)) (by rw [l]; exact rel.val k)
    obtain ⟨p, hp, hp2⟩ := Option.map_eq_some_iff.mp hw
    refine wpAny_getItem_heap (tupleKind_room_in1 hu) (key_of I.hok eb) dd hp ?_
    rw [hp2]
    exact h w' _ (I.tok _) rw'
theorem d_notIn {Q : Value → Shared → Prop} (hu : A.units + 1 < cLine) (I : Inv X pins σ H s) (g : DGet H a y o) (ry : RelV y u) (h : ∀ s', Inv X pins σ H s' → Q (.bool (!o.isSome)) s') :
    wpAny (model X.prog X.w) A (compareOp .NotIn u (.ref a)) Q E s := by
  rcases g with ⟨kvs, k, e, ey, l⟩ | ⟨kvs, k, b, e, ey, eb, l⟩
  · subst ey
    obtain ⟨z, hd, vs, rel, dd⟩ := dk_rd I.hok e
    refine wpAny_notIn_of (kV_is ry) hd dd.mapOf ?_
    rw [← (rel.val k).isSome_eq, ← l]
    exact h _ (I.tok _)
  · subst ey
    cases (show u = Value.ref b from ry)
    obtain ⟨z, hd, xs, rel, dd⟩ := dt_rd I.hok e
    refine wpAny_notIn_heap (tupleKind_room_in1 hu) (key_of I.hok eb) hd dd ?_
    have q := (rel.val k).isSome_eq
    rw [Option.isSome_map] at q
    rw [← q, ← l]
    exact h _ (I.tok _)
theorem d_write {h' : Heap} {t' : Nat} {ob : HO} (I : Inv X pins σ H s) (mu : Mut (H a)) (hs : Heap.SameBut a s.heap h') (he : ∃ q, h'.get? a = some q) (new : ObjOk X.prog X.w (upd H a ob) h' a ob) :
    Inv X pins σ (upd H a ob) { s with heap := h', toks := t' } :=
  I.write (x := a) (e := a) mu (.inl rfl) (fun b q hb z => (hs.2 b hb).trans z) he new
theorem dk_new {P : Program} {w : World} {H' : Hp} {h' : Heap} {kvs : List (Key × V)} {vs : List (Key × Value)} (z : kvs.length ≤ sizeLine) (hd : (a == sysModules) = false) (rel : KV kvs vs) (dd : h'.DictOf (mixKind P w) a vs) :
    ObjOk P w H' h' a (.dK kvs) := ⟨z, hd, vs, rel, dd⟩
theorem d_setItem {H' : Hp} {Q : Unit → Shared → Prop} (hu : A.units + 1 < cLine) (I : Inv X pins σ H s) (g : DPut H a y v H') (ry : RelV y u) (rv : RelV v r) (h : ∀ s', Inv X pins σ H' s' → Q () s') :
    wpAny (model X.prog X.w) A (setItem (.ref a) u r) Q E s := by
  rcases g with ⟨kvs, k, e, ey, l, eH⟩ | ⟨kvs, k, b, e, ey, eb, l, eH⟩
  · subst ey eH
    obtain ⟨z, hd, vs, rel, dd⟩ := dk_of I.hok e
    have hz : vs.length ≤ sizeLine := by rw [← rel.length]; exact z
    have hl : (putK kvs k v).length ≤ sizeLine := by have := length_putK kvs k v; omega
    refine wpAny_setItem_pairs (hsz := hz) (kV_is ry) dd fun h' dd' hs => h _ ?_
    have he : ∃ q, h'.get? a = some q := let ⟨q, _, _, hq, _⟩ := dd'; ⟨q, hq⟩
    exact d_write I (by rw [e]; exact True.intro) hs he (dk_new hl hd (rel.put k rv) dd')
  · subst ey eH
    cases (show u = Value.ref b from ry)
    obtain ⟨z, hd, xs, rel, dd⟩ := dt_of I.hok e
    have hz : xs.length ≤ sizeLine := by rw [← Paired.length rel]; exact z
    have hl : (putK kvs k v).length ≤ sizeLine := by have := length_putK kvs k v; omega
    refine wpAny_setItem_heap (hsz := hz) (tupleKind_room_in1 hu) (key_of I.hok eb) dd fun h' dd' hs => h _ ?_
    obtain ⟨q, es, ep, hq, h2, h3, h4, _, h5⟩ := dd'
    refine d_write I (by rw [e]; exact True.intro) hs ⟨q, hq⟩ ⟨hl, hd, _, (rel.put k eb rv).keeps fun c ys ec => ?_, q, es, ep, hq, h2, h3, h4, h5⟩
    rw [upd_ne (ne_of ec e (fun z => nomatch z))]
    exact ec
end
section
variable {X : Cx} {pins : List (Addr × Obj)} {σ : St} {H : Hp} {s : Shared} {a : Addr} {kvs : List (Key × V)} {k : Key} {u : Value} {A : Around} {E : Value → Shared → Prop}
end
def NoSl (i : Expr) : Prop := ∀ ov iv, subscripted i false ov iv = operate [ov, iv] (getItem ov iv)
theorem subD_of {prog : Program} {w : World} {A : Around} {E : Value → Shared → Prop} {s : Shared} {env : Env} {value slice : Expr} {pos : Pos} {T id : String} {Q : Value → Shared → Prop}
    (hl : typeLookup (.type T) "__getitem__" = pure (some (.builtin id))) (hs : NoSl slice)
    (h : wpAny (model prog w) A (eval value env) (fun o s₁ => wpAny (model prog w) A (eval slice env) (fun i s₂ => s₂.TypeIs o T ∧ wpAny (model prog w) A (getItem o i) Q E s₂) E s₁) E s) :
    wpAny (model prog w) A (eval (.Subscript value slice pos) env) Q E s := by
  refine Subscript_ (wpAny_mono h (fun o s₁ h₁ => wpAny_mono h₁ (fun i s₂ h₂ => ?_) fun _ _ x => x) fun _ _ x => x)
  obtain ⟨hT, h₂⟩ := h₂
  unfold subscriptTail
  refine wpAny_bind ?_
  rw [getitemInPython_of_ne hT.not_modules]
  refine wpAny_bind (wpAny_specialOf hT hl ?_)
  have fin : wpAny (model prog w) A (subscripted slice false o i) (fun r s₃ => wpAny (model prog w) A (letTemporaryGo value o r >>= fun _ => pure r) Q E s₃) E s₂ := by
    rw [hs o i]
    exact wpAny_operating (wpAny_mono h₂ (fun r s₃ h₃ => wpAny_bind (wpAny_letTemporaryGo (wpAny_pure h₃))) fun _ _ x => x)
  first
    | exact wpAny_pure (wpAny_bind fin)
    | exact wpAny_bind (wpAny_pure (wpAny_bind fin))
    | exact wpAny_bind fin
theorem dict_typeIs {X : Cx} {pins : List (Addr × Obj)} {σ : St} {H : Hp} {s : Shared} {a : Addr} {y : V} {o : Option V} (I : Inv X pins σ H s) (g : DGet H a y o) : s.TypeIs (.ref a) "dict" := by
  rcases g with ⟨kvs, k, e, _, _⟩ | ⟨kvs, k, b, e, _, _, _⟩
  · obtain ⟨_, _, vs, _, dd⟩ := dk_rd I.hok e
    exact dd.typeIs
  · obtain ⟨_, _, xs, _, dd⟩ := dt_rd I.hok e
    exact dd.typeIs
def tDGet (td ty : TE) : TE := fun σ H Q => td σ H fun x H1 => ty σ H1 fun y H2 => ∃ a v, x = .ref a ∧ DGet H2 a y (some v) ∧ Q v H2
def tDNotIn (ty td : TE) : TE := fun σ H Q => ty σ H fun y H1 => td σ H1 fun x H2 => ∃ a o, x = .ref a ∧ DGet H2 a y o ∧ Q (.bl (!o.isSome)) H2
def sDPut (td ty tv : TE) : TS := fun D σ H => tv σ H fun v H1 => td σ H1 fun x H2 => ty σ H2 fun y H3 => ∃ a H4, x = .ref a ∧ DPut H3 a y v H4 ∧ D.nx σ H4
section
variable {X : Cx} {o i e value : Expr} {pos pos' tpos : Pos} {td ty tv : TE}
theorem pe_dget (hu : X.A.units + 1 < cLine) (ho : PE X o td) (hi : PE X i ty) (hs : NoSl i) : PE X (.Subscript o i pos) (tDGet td ty) := by
  intro pins s σ H Q I h
  refine subD_of PySem.F.slot_dict_getitem.lookup hs (thn (ho pins s σ H _ I h) fun u s1 ⟨x, H1, I1, rx, q1⟩ => thn (hi pins s1 σ H1 _ I1 q1) fun iv s2 ⟨y, H2, I2, ry, a, v, ex, g, q2⟩ => ?_)
  subst ex
  obtain rfl : u = Value.ref a := rx
  exact ⟨dict_typeIs I2 g, d_getItem hu I2 g ry fun w' s3 I3 rw' => ⟨v, H2, I3, rw', q2⟩⟩
theorem pc_dnotin (hu : X.A.units + 1 < cLine) (hi : PE X i ty) (ho : PE X o td) : PC X .NotIn i o (tDNotIn ty td) := by
  intro pins s σ H Q I h
  refine thn (hi pins s σ H _ I h) fun iv s1 ⟨y, H1, I1, ry, q1⟩ => thn (ho pins s1 σ H1 _ I1 q1) fun u s2 ⟨x, H2, I2, rx, a, ov, ex, g, q2⟩ => ?_
  subst ex
  obtain rfl : u = Value.ref a := rx
  exact d_notIn hu I2 g ry fun s3 I3 => ⟨.bl (!ov.isSome), H2, I3, rfl, q2⟩
theorem ps_dput (hu : X.A.units + 1 < cLine) (ho : PE X o td) (hi : PE X i ty) (hv : PE X value tv) (hs : swapsWith value (some (.Subscript o i pos')) pos.line X.env = pure false) :
    PS X (.Assign [.Subscript o i pos'] value pos) (sDPut td ty tv) := by
  intro pins s σ H D I h
  refine wpAny_Assign_Subscript (thn (hv pins s σ H _ I h) fun r s1 ⟨v, H1, I1, rv, q1⟩ => thn (ho pins s1 σ H1 _ I1 q1) fun u s2 ⟨x, H2, I2, rx, q2⟩ => thn (hi pins s2 σ H2 _ I2 q2) fun iv s3 ⟨y, H3, I3, ry, a, H4, ex, g, q3⟩ => ?_) hs
  subst ex
  obtain rfl : u = Value.ref a := rx
  exact d_setItem hu I3 g ry rv fun s4 I4 => ⟨σ, H4, I4, q3⟩
end
theorem dt_empty {P : Program} {w : World} {H : Hp} (h : Heap) (hb : sysModules < h.objs.size) : ObjOk P w H (h.push { cls := .type "dict", data := .dict #[] }) h.objs.size (.dT []) :=
  ⟨Nat.zero_le _, beq_eq_false_iff_ne.mpr (Ne.symm (Nat.ne_of_lt hb)), [], .nil, _, #[], 0, Heap.get?_push_size _ rfl, ⟨rfl, rfl, rfl⟩, rfl, rfl, List.nodup_nil⟩
def tDNewT : TE := fun _ H Q => ∀ p, H p = none → Q (.ref p) (upd H p (.dT []))
section
variable {X : Cx} {pos : Pos}
theorem pe_dnewT : PE X (.Dict [] [] pos) tDNewT := fun pins s σ H Q I h =>
  wpAny_Dict_empty ⟨.ref s.heap.objs.size, _, I.laid (a := s.heap.objs.size) (o := .dT []) (t' := s.toks) (fun _ _ q => Heap.get?_push_of_some _ q) (Nat.le_refl _) (dt_empty s.heap I.big), rfl, h _ (I.hok.fresh (Nat.le_refl _))⟩
end
section
variable {X : Cx} {pins : List (Addr × Obj)} {σ : St} {H : Hp} {s : Shared} {a : Addr} {y d : V} {u r : Value} {o : Option V} {A : Around} {E : Value → Shared → Prop}
end
section
variable {X : Cx} {o e f : Expr} {apos cpos : Pos} {td ty tx : TE}
end
section
variable {X : Cx} {pins : List (Addr × Obj)} {σ : St} {H : Hp} {s : Shared} {a : Addr} {kvs : List (Key × V)} {A : Around} {E : Value → Shared → Prop}
end
section
variable {X : Cx} {pins : List (Addr × Obj)} {σ : St} {H : Hp} {s : Shared} {a : Addr} {y : V} {u : Value} {A : Around} {E : Value → Shared → Prop}
end
end L2
namespace L2
open PySem PySem.Spec PyProof.Rows
section
variable {κ : Type} [DecidableEq κ]
end
end L2
set_option Elab.async false
set_option linter.all false
set_option maxRecDepth 100000
set_option maxHeartbeats 4000000
namespace L2
open PySem PySem.Spec PyProof.Rows
section
variable {X : Cx} {x : Str} {p pos : Pos} {e : Expr} {es : List Expr} {kws : List Keyword} {ks : List Str} {t tk : TA} {id : String} {r : List V → List V → Hp → VK → Prop}
def CallKR (X : Cx) (f : Value) (ks : List Str) (r : List V → List V → Hp → VK → Prop) : Prop :=
  ∀ (pins : List (Addr × Obj)) (s : Shared) (σ : St) (H : Hp) (xs zs : List V) (us ws : List Value) (Q : VK), Inv X pins σ H s → Vals xs us → Vals zs ws → r xs zs H Q → wpAny (model X.prog X.w) X.A (call f us (ks.zip ws)) (EP X pins σ Q) X.xe s
def tCBK (r : List V → List V → Hp → VK → Prop) (t tk : TA) : TE := fun σ H Q => t σ H fun xs H1 => tk σ H1 fun zs H2 => r xs zs H2 Q
theorem pe_callBK (hc : CallKR X (.builtin id) ks r) (hg : Gl X x) (hm : X.mg x = none) (hv : bootBuiltins x = some (.builtin id)) (ha : PA X (e :: es) t) (hkw : PK X kws tk) (hks : (backToKw pos (keywordEach kws X.env)).filterMap (·.1) = ks := by rfl)
    (hn : x ≠ "__name__" := by decide) (hdb : (x == ("__debug__" : Str)) = false := by decide) (he : backTo pos (starEach (e :: es) X.env) = (false, eval e X.env) :: backTo pos (starEach es X.env) := by rfl) (hpl : (backTo pos (starEach (e :: es) X.env)).any (·.1) = false := by rfl)
    (hall : (backToKw pos (keywordEach kws X.env)).all (·.1.isSome) = true := by rfl) (hno : (backToKw pos (keywordEach kws X.env)).any (·.1.isNone) = false := by rfl) : PE X (.Call (.Name x p) (e :: es) kws pos) (tCBK r t tk) := by
  intro pins s σ H Q I h
  refine wpAny_Call_Name_kw (ld_blt I hg hm hv ?_ hn hdb)
  refine callWith_kw (thn (ha pos pins s σ H _ I h) fun us s1 ⟨vs, H1, I1, r1, q1⟩ => thn (hkw pos pins s1 σ H1 _ I1 q1) fun ws s2 ⟨zs, H2, I2, r2, q2⟩ => ?_) he hpl hall hno
  rw [hks]
  exact hc pins s2 σ H2 vs zs us ws Q I2 r1 r2 q2
end
section
variable {prog : Program} {w : World} {A : Around} {R : Result → Shared → Prop} {I : Addr} {fp wr : List Addr} {n : Nat} {P : Nat → Value → Prop} {St : Nat → Heap → Prop}
theorem maxD_on (W : Walks prog w A.in1 I fp wr n P St) (bt : Nat → Nat → Bool) (hc : CmpOf prog w A.in1 .Gt P bt) (S : Addr) (nS : S ∉ fp) (kw : List (Str × Value)) : ∀ (k j : Nat) (s : Shared) (vb : Value) (c : Nat), n - (j + 1) = k → j + 1 ≤ n → St (j + 1) s.heap → P (argBest bt j) vb →
    s.heap.get? S = some { cls := .type "list", dict := none, data := .seq #[vb, vb] c, slots := #[] } → (∀ v h' tk, P (argBest bt (n - 1)) v → (∀ b o, b ∉ wr → b ≠ S → s.heap.get? b = some o → h'.get? b = some o) → R (.ok (.ret v)) { s with heap := h', toks := tk }) →
    codeAny (model prog w) A (.builtin "max.loop" ⟨[.ref I, .none, .ref S], kw⟩) R s := by
  have nw : S ∉ wr := fun z => nS (W.sub _ z)
  have nm : (toString "max" ++ toString ".loop" : String) = "max.loop" := by decide
  intro k
  induction k with
  | zero =>
    intro j s vb c hk hj st hb oS q
    have ej : j + 1 = n := by omega
    refine codeAny_builtin F.entry_max_loop ?_
    rw [Around.under_plainId F.plain_max_loop _]
    refine wpAny_bind (m := seqItems? (.ref S)) (wpAny_seqItems oS rfl (wpAny_bind (wpAny_tryCatch (W.done s _ _ (ej ▸ st) fun h' tk kp => ?_))))
    refine wpAny_bind (wpAny_updateSeq (kp S _ nw oS) rfl (wpAny_bind (wpAny_letGo (wpAny_pure ?_))))
    exact q vb _ tk (by rw [← ej]; exact hb) fun b o b1 b2 e => (Heap.get?_update_other _ _ (Ne.symm b2)).trans (kp b o b1 e)
  | succ k ih =>
    intro j s vb c hk hj st hb oS q
    refine codeAny_builtin F.entry_max_loop ?_
    rw [Around.under_plainId F.plain_max_loop _]
    refine wpAny_bind (m := seqItems? (.ref S)) (wpAny_seqItems oS rfl (wpAny_bind (wpAny_tryCatch (W.item (j + 1) s _ _ (by omega) st fun v h' tk hP st' kp => ?_))))
    have oS' := kp S _ nw oS
    refine wpAny_bind (wpAny_pure ?_)
    refine wpAny_bind (m := tryCatch (holding [v, v] (richCompare CmpOp.Gt v vb >>= _)) _) (wpAny_tryCatch (wpAny_holding (wpAny_bind (hc (j + 1) (argBest bt j) v vb _ _ _ hP hb (wpAny_bind (wpAny_holding (wpAny_truthy_bool (wpAny_bind (wpAny_letGo (wpAny_pure ?_))))))))))
    cases bb : bt (j + 1) (argBest bt j) with
    | true =>
      simp only [if_true]
      refine wpAny_bind (wpAny_updateSeq oS' rfl (wpAny_bind (wpAny_letGo ?_)))
      rw [nm]
      refine wpAny_pure ⟨plainId_quiet F.plain_max_loop _, ih (j + 1) _ v _ (by omega) (by omega) (W.frame _ _ _ st' fun b hf o e => (Heap.get?_update_other _ _ (fun z : S = b => nS (by rw [z]; exact hf))).trans e) (by simp only [argBest, bb, if_true]; exact hP) (Heap.get?_update_self _ oS' rfl) fun v' h'' tk'' hP' kp' => ?_⟩
      exact q v' h'' tk'' hP' fun b o b1 b2 e => kp' b o b1 b2 ((Heap.get?_update_other _ _ (Ne.symm b2)).trans (kp b o b1 e))
    | false =>
      simp only [Bool.false_eq_true, if_false]
      refine wpAny_bind (wpAny_letGo ?_)
      rw [nm]
      exact wpAny_pure ⟨plainId_quiet F.plain_max_loop _, ih (j + 1) _ vb c (by omega) (by omega) st' (by simp only [argBest, bb, Bool.false_eq_true, if_false]; exact hb) oS' fun v' h'' tk'' hP' kp' => q v' h'' tk'' hP' fun b o b1 b2 e => kp' b o b1 b2 (kp b o b1 e)⟩
theorem maxD_first (W : Walks prog w A.in1 I fp wr n P St) (bt : Nat → Nat → Bool) (hc : CmpOf prog w A.in1 .Gt P bt) (S : Addr) (nS : S ∉ fp) {k : Str} {d : Value} {s : Shared} {c : Nat} (st : St 0 s.heap)
    (oS : s.heap.get? S = some { cls := .type "list", dict := none, data := .seq #[] c, slots := #[] })
    (q : ∀ v h' tk, ((0 < n ∧ P (argBest bt (n - 1)) v) ∨ (n = 0 ∧ v = d)) → (∀ b o, b ∉ wr → b ≠ S → s.heap.get? b = some o → h'.get? b = some o) → R (.ok (.ret v)) { s with heap := h', toks := tk }) :
    codeAny (model prog w) A (.builtin "max.loop" ⟨[.ref I, .none, .ref S], [(k, d)]⟩) R s := by
  have nw : S ∉ wr := fun z => nS (W.sub _ z)
  have nm : (toString "max" ++ toString ".loop" : String) = "max.loop" := by decide
  refine codeAny_builtin F.entry_max_loop ?_
  rw [Around.under_plainId F.plain_max_loop _]
  by_cases h0 : n = 0
  · subst h0
    refine wpAny_bind (m := seqItems? (.ref S)) (wpAny_seqItems oS rfl (wpAny_bind (wpAny_tryCatch (W.done s _ _ st fun h' tk kp => ?_))))
    exact wpAny_bind (wpAny_rule (wpAny_pure (q d h' tk (.inr ⟨rfl, rfl⟩) fun b o b1 _ e => kp b o b1 e)))
  · refine wpAny_bind (m := seqItems? (.ref S)) (wpAny_seqItems oS rfl (wpAny_bind (wpAny_tryCatch (W.item 0 s _ _ (by omega) st fun v h' tk hP st' kp => ?_))))
    refine wpAny_bind (wpAny_pure ?_)
    refine wpAny_bind (wpAny_updateSeq (kp S _ nw oS) rfl ?_)
    rw [nm]
    refine wpAny_pure ⟨plainId_quiet F.plain_max_loop _, maxD_on W bt hc S nS _ _ 0 _ v _ rfl (by omega) (W.frame _ _ _ st' fun b hf o e => (Heap.get?_update_other _ _ (fun z : S = b => nS (by rw [z]; exact hf))).trans e) hP (Heap.get?_update_self _ (kp S _ nw oS) rfl) fun v' h'' tk'' hP' kp' => ?_⟩
    exact q v' h'' tk'' (.inl ⟨by omega, hP'⟩) fun b o b1 b2 e => kp' b o b1 b2 ((Heap.get?_update_other _ _ (Ne.symm b2)).trans (kp b o b1 e))
end
end L2
set_option Elab.async false
set_option linter.all false
set_option maxRecDepth 100000
set_option maxHeartbeats 4000000
namespace L2
open PySem PySem.Spec PyProof.Rows
theorem args_maxD (a v : Value) : argsOk "max" ⟨[a], [(Str.ofString "default", v)]⟩ := by unfold argsOk; kernel_rfl
theorem best_all (val : Nat → Int) : ∀ k, argBest (fun i j => decide (val i > val j)) k ≤ k ∧ ∀ i, i ≤ k → val i ≤ val (argBest (fun i j => decide (val i > val j)) k)
  | 0 => ⟨Nat.le_refl _, fun i hi => by rw [Nat.le_zero.mp hi]; exact Int.le_refl _⟩
  | k + 1 => by
    obtain ⟨h1, h2⟩ := best_all val k
    unfold argBest
    by_cases c : val (k + 1) > val (argBest (fun i j => decide (val i > val j)) k)
    · rw [if_pos (decide_eq_true c)]
      refine ⟨Nat.le_refl _, fun i hi => ?_⟩
      by_cases e : i = k + 1
      · rw [e]; exact Int.le_refl _
      · have := h2 i (by omega)
        omega
    · rw [if_neg (by rw [decide_eq_false c]; decide)]
      refine ⟨by omega, fun i hi => ?_⟩
      by_cases e : i = k + 1
      · rw [e]; omega
      · exact h2 i (by omega)
def rMaxD : List V → List V → Hp → VK → Prop := fun xs zs H Q => ∃ p ns d, xs = [.ref p] ∧ zs = [.int d] ∧ H p = some (.lst (ns.map V.int)) ∧ ∀ g, (∀ n, n ∈ ns → n ≤ g) → (g ∈ ns ∨ (ns = [] ∧ g = d)) → Q (.int g) H
section
variable {X : Cx}
theorem call_maxD (hc : X.calm = true) : CallKR X (.builtin "max") [Str.ofString "default"] rMaxD := by
  intro pins s σ H xs zs us ws Q I r rz h
  obtain ⟨p, ns, d, rfl, rfl, hp, q⟩ := h
  obtain ⟨u, rfl, ru⟩ := vals1 r
  obtain ⟨u', rfl, t, rfl⟩ := vals1 rz
  cases ru
  obtain ⟨its, rv, pl, hz⟩ := I.list (.of hp)
  have ia : IntsAre its ns := by
    have := intsAre_of rv
    simpa using this
  have len := ia.length
  have ne : p ≠ s.heap.objs.size := Nat.ne_of_lt pl.lt
  have nm : (toString "max" ++ toString ".loop" : String) = "max.loop" := by decide
  refine kmk_tree PySem.F.kind_max PySem.F.plain_max PySem.F.entry_max (args_maxD _ _) ?_
  refine wpAny_bind (m := Builtin.Builtins.bindParams "max" ["key", "default"] 0 ⟨[], [(Str.ofString "default", .int d t)]⟩) (wpAny_of_eq (show Builtin.Builtins.bindParams "max" ["key", "default"] 0 ⟨[], [(Str.ofString "default", .int d t)]⟩ = pure [none, some (.int d t)] from rfl) (wpAny_bind (wpAny_pure (wpAny_bind (wpAny_pyIter_list pl.isList (wpAny_bind (wpAny_newList ?_ (Nat.zero_le _))))))))
  rw [nm]
  have W := Walks.list (prog := X.prog) (w := X.w) (A := X.A.in1) (show X.A.in1.handled = none from I.ok.hd hc) s.heap.objs.size p ne its.toArray
  have it : ∀ i v, its.toArray[i]? = some v → ∃ t, v = Value.int (ns.getD i 0) t := fun i v hv => IntsAre.int_at ia i v (by simpa using hv)
  have sz : (s.heap.push { cls := .type "list_iterator", data := .fields #[.ref p, .int 0 0] }).objs.size = s.heap.objs.size + 1 := by rw [Heap.size_push]
  refine wpAny_pure ⟨plainId_quiet PySem.F.plain_max_loop _, maxD_first W (fun i j => decide (ns.getD i 0 > ns.getD j 0)) (CmpOf.ints_gt (fun i => ns.getD i 0) it) _ (fun z => ?_) (st := W.frame 0 _ _ ⟨⟨_, Heap.get?_push_size _ rfl, rfl, rfl⟩, pl.isList.push _⟩ fun b _ o e => Heap.get?_push_of_some _ e) (Heap.get?_push_size _ rfl) fun v h' tk hv kp => ?_⟩
  · rw [sz] at z
    have l2 : p < s.heap.objs.size := pl.lt
    rcases List.mem_cons.mp z with z | z
    · exact absurd z (Nat.ne_of_gt (Nat.lt_succ_self _))
    · exact absurd (List.mem_singleton.mp z) (Nat.ne_of_gt (Nat.lt_succ_of_lt l2))
  · have keep : ∀ b o, s.heap.get? b = some o → h'.get? b = some o := fun b o e => by
      have lt := Heap.lt_size e
      refine kp b o (fun z => ?_) (fun z => ?_) (Heap.get?_push_of_some _ (Heap.get?_push_of_some _ e))
      · exact absurd (show b = s.heap.objs.size by simpa using z) (Nat.ne_of_lt lt)
      · rw [sz] at z
        exact absurd z (Nat.ne_of_lt (Nat.lt_succ_of_lt lt))
    obtain ⟨b1, b2⟩ := best_all (fun i => ns.getD i 0) (its.toArray.size - 1)
    have J : Inv X pins σ H { s with heap := h', toks := tk } := I.kept keep
    rcases hv with ⟨h0, hv⟩ | ⟨h0, rfl⟩
    · obtain ⟨t', rfl⟩ := it _ _ hv
      have h0 : 0 < its.length := by simpa using h0
      have zi : its.toArray.size = its.length := rfl
      rw [zi] at b1 b2 ⊢
      refine ⟨.int _, H, J, ⟨t', rfl⟩, q _ (fun n hn => ?_) (.inl ?_)⟩
      · obtain ⟨i, hi, e⟩ := List.mem_iff_getElem.mp hn
        have := b2 i (by omega)
        have e' : ns.getD i 0 = n := by simp [hi, e]
        rw [e'] at this
        exact this
      · have hb : argBest (fun i j => decide (ns.getD i 0 > ns.getD j 0)) (its.length - 1) < ns.length := by omega
        rw [List.getD_eq_getElem?_getD, List.getElem?_eq_getElem hb]
        exact List.getElem_mem _
    · have h0 : its.length = 0 := by simpa using h0
      have n0 : ns = [] := List.eq_nil_of_length_eq_zero (by omega)
      exact ⟨.int d, H, J, ⟨t, rfl⟩, q d (fun n hn => by rw [n0] at hn; cases hn) (.inr ⟨n0, rfl⟩)⟩
end
end L2
set_option Elab.async false
set_option linter.all false
set_option maxRecDepth 100000
set_option maxHeartbeats 4000000
namespace L2
open PySem PySem.Spec PyProof.Rows
section
variable {prog : Program} {w : World} {A : Around} {E : Value → Shared → Prop} {s : Shared}
end
section
variable {X : Cx} {pins : List (Addr × Obj)} {σ : St} {H : Hp} {s : Shared}
variable {o e f : Expr} {td ty tx : TE} {apos cpos : Pos}
end
end L2
set_option Elab.async false
set_option linter.all false
set_option maxRecDepth 100000
set_option maxHeartbeats 4000000
namespace L2
open PySem PySem.Spec PyProof.Rows
section
variable {prog : Program} {w : World} {A : Around} {E : Value → Shared → Prop} {s : Shared}
theorem kiter_new {d : Addr} {od : Obj} {es : Array DictEntry} {ep : Nat} {Q : Value → Shared → Prop} (hd : (d == sysModules) = false) (ho : s.heap.get? d = some od) (hc : od.cls = .type "dict") (hdat : od.data = .dict es ep)
    (q : Q (.ref s.heap.objs.size) { s with heap := s.heap.push { cls := .type "dict_keyiterator", data := .fields #[.ref d, .int 0 0, .int es.size 0, .int ep 0] } }) : wpAny (model prog w) A (pyIter (.ref d)) Q E s := by
  have ty : s.TypeIs (.ref d) "dict" := ⟨od, ho, hc⟩
  refine wpAny_pyIter_slot ty PySem.F.slot_dict_iter (wpAny_call_entry PySem.F.slot_dict_iter ty PySem.F.entry_dict_iter ?_ (PySem.F.args_dict_iter_1 _))
  unfold Builtin.«dict.__iter__»
  refine wpAny_bind ?_
  unfold Builtin.Dict.dictSlotNone
  refine wpAny_bind (wpAny_notOrdered_dict ty (wpAny_pure ?_))
  refine wpAny_bind (m := Builtin.Dict.showsAll d) ?_
  unfold Builtin.Dict.showsAll
  rw [if_neg (by rw [hd]; decide)]
  refine wpAny_pure (wpAny_bind (wpAny_dictEntries ho hdat (wpAny_bind (wpAny_dictEpoch ho hdat (wpAny_bind (wpAny_newObj_type (wpAny_pure ⟨_, rfl, "dict_keyiterator", _, ⟨_, Heap.get?_push_size _ rfl, rfl⟩, PySem.F.slot_dict_keyiterator_next.lookup, ?_⟩)))))))
  simpa [rawInt] using q
theorem kiter_item {it d : Addr} {i ep : Nat} {od : Obj} {es : Array DictEntry} {Q : Option Value → Shared → Prop} (hit : s.heap.IsKeyIter it d i es.size ep) (ho : s.heap.get? d = some od) (hdat : od.data = .dict es ep) (hi : i < es.size)
    (q : ∀ h', h'.IsKeyIter it d (i + 1) es.size ep → Heap.SameBut it s.heap h' → Q (some es[i].key) { s with heap := h' }) : wpAny (model prog w) A (pyNext (.ref it)) Q E s := by
  obtain ⟨o, hoi, hci, hdi⟩ := id hit
  have own : Builtin.Dict_items.ownsTuple "dict_keyiterator" = false := by decide
  unfold pyNext
  refine wpAny_bind (wpAny_attempt (wpAny_callSpecial?_slot (name := Str.ofString "__next__") hit.typeIs PySem.F.slot_dict_keyiterator_next (wpAny_call_entry PySem.F.slot_dict_keyiterator_next hit.typeIs PySem.F.entry_dict_keyiterator_next (wpAny_bind (wpAny_pure (wpAny_bind (wpAny_bind ?_)))) (PySem.F.args_dict_keyiterator_next_1 _))))
  first | refine wpAny_bind (wpAny_typeNameOfWhole_keyiter hit.typeIs (wpAny_pure (wpAny_bind (wpAny_fieldsOf hoi hdi ?_)))) | refine wpAny_bind (wpAny_typeNameOf_keyiter hit.typeIs (wpAny_pure (wpAny_bind (wpAny_fieldsOf hoi hdi ?_))))
  simp only [own, Bool.false_eq_true, if_false]
  show wpAny _ _ (if (Value.ref d == Value.none) = true then _ else _) _ _ s
  have nv : ¬ ((Value.ref d == Value.none) = true) := Bool.false_ne_true
  rw [if_neg nv]
  refine wpAny_bind (wpAny_pure (wpAny_bind (wpAny_dictEntries ho hdat ?_)))
  rw [if_neg (by simp)]
  refine wpAny_bind (wpAny_pure (wpAny_bind (wpAny_dictEpoch ho hdat ?_)))
  rw [if_neg (by simp)]
  refine wpAny_pure ?_
  simp only [show ¬ ((i : Int) < 0) from by omega, if_false, Int.toNat_natCast, Array.getElem?_eq_getElem hi]
  refine wpAny_bind ?_
  first | refine wpAny_bind (wpAny_typeNameOfWhole_keyiter hit.typeIs (wpAny_pure (wpAny_bind (wpAny_isOneOf_keyiter hit.typeIs ?_)))) | refine wpAny_bind (wpAny_typeNameOf_keyiter hit.typeIs (wpAny_pure (wpAny_bind (wpAny_isOneOf_keyiter hit.typeIs ?_))))
  refine wpAny_bind (m := setField (.ref it) 1 (rawInt ((i : Int) + 1))) (wpAny_setField hoi hdi (by simp) ?_)
  have st : (s.heap.update it (Obj.mapFields (·.setIfInBounds 1 (rawInt ((i : Int) + 1))))).IsKeyIter it d (i + 1) es.size ep := ⟨_, Heap.get?_update_self _ hoi (Obj.isFreed_of_fields (Obj.data_mapFields hdi _)), (Obj.cls_mapFields ..).trans hci, by rw [Obj.data_mapFields hdi]; simp [rawInt]⟩
  refine wpAny_bind (wpAny_holding (wpAny_bind (wpAny_isOneOf_keyiter (s := { s with heap := s.heap.update it (Obj.mapFields (·.setIfInBounds 1 (rawInt ((i : Int) + 1)))) }) st.typeIs ?_)))
  exact wpAny_pure (wpAny_pure ⟨_, rfl, wpAny_pure (q _ st (Heap.SameBut.update ..))⟩)
theorem kiter_end {it d : Addr} {i ep : Nat} {od : Obj} {es : Array DictEntry} {Q : Option Value → Shared → Prop} (hh : A.handled = none) (hit : s.heap.IsKeyIter it d i es.size ep) (ho : s.heap.get? d = some od) (hdat : od.data = .dict es ep) (hi : es.size ≤ i)
    (q : ∀ h', Heap.ExtBut it s.heap h' → Q none { s with heap := h' }) : wpAny (model prog w) A (pyNext (.ref it)) Q E s := by
  obtain ⟨o, hoi, hci, hdi⟩ := id hit
  have own : Builtin.Dict_items.ownsTuple "dict_keyiterator" = false := by decide
  unfold pyNext
  refine wpAny_bind (wpAny_attempt (wpAny_callSpecial?_slot (name := Str.ofString "__next__") hit.typeIs PySem.F.slot_dict_keyiterator_next (wpAny_call_entry PySem.F.slot_dict_keyiterator_next hit.typeIs PySem.F.entry_dict_keyiterator_next (wpAny_bind (wpAny_pure (wpAny_bind (wpAny_bind ?_)))) (PySem.F.args_dict_keyiterator_next_1 _))))
  first | refine wpAny_bind (wpAny_typeNameOfWhole_keyiter hit.typeIs (wpAny_pure (wpAny_bind (wpAny_fieldsOf hoi hdi ?_)))) | refine wpAny_bind (wpAny_typeNameOf_keyiter hit.typeIs (wpAny_pure (wpAny_bind (wpAny_fieldsOf hoi hdi ?_))))
  simp only [own, Bool.false_eq_true, if_false]
  show wpAny _ _ (if (Value.ref d == Value.none) = true then _ else _) _ _ s
  have nv : ¬ ((Value.ref d == Value.none) = true) := Bool.false_ne_true
  rw [if_neg nv]
  refine wpAny_bind (wpAny_pure (wpAny_bind (wpAny_dictEntries ho hdat ?_)))
  rw [if_neg (by simp)]
  refine wpAny_bind (wpAny_pure (wpAny_bind (wpAny_dictEpoch ho hdat ?_)))
  rw [if_neg (by simp)]
  refine wpAny_pure ?_
  simp only [show ¬ ((i : Int) < 0) from by omega, if_false, Int.toNat_natCast, Array.getElem?_eq_none hi]
  refine wpAny_bind ?_
  first | refine wpAny_bind (wpAny_typeNameOfWhole_keyiter hit.typeIs (wpAny_pure ?_)) | refine wpAny_bind (wpAny_typeNameOf_keyiter hit.typeIs (wpAny_pure ?_))
  refine wpAny_bind (m := setField (.ref it) 0 .none) (wpAny_setField hoi hdi (by simp) ?_)
  refine wpAny_bind (m := newExc (.type "StopIteration") []) ?_
  simp only [newExc, newTuple]
  refine wpAny_bind (wpAny_newObj_type (wpAny_bind (m := firstArgMember _ _) (wpAny_of_eq (a := Value.none) (by first | rfl | (simp only [firstArgMember]; rfl)) (wpAny_newObj_type ?_ (by size_fits)))) (by size_fits))
  simp only [raiseNew]
  refine wpAny_bind (wpAny_handled ?_)
  rw [show A.in1.handled = none from hh]
  refine wpAny_bind (wpAny_pure (wpAny_throw ?_))
  refine wpAny_bind (wpAny_isInstance (T := "StopIteration") (b := true) ⟨_, Heap.get?_push_size _ rfl, rfl⟩ isSubtype_stop (wpAny_pure ?_))
  exact q _ (((Heap.SameBut.update ..).extBut.push _).push _)
end
end L2
set_option Elab.async false
set_option linter.all false
set_option maxRecDepth 100000
set_option maxHeartbeats 4000000
namespace L2
open PySem PySem.Spec PyProof.Rows
section
variable {X : Cx} {tg : Expr} {pins : List (Addr × Obj)} {σ : St} {H : Hp} {s : Shared}
theorem paired_at {kvs : List (List Key × V)} {xs : List (List Key × Addr × Value)} {H : Hp} : Paired (fun (p : List Key × V) (q : List Key × Addr × Value) => p.1 = q.1 ∧ H q.2.1 = some (.tup (p.1.map kV)) ∧ RelV p.2 q.2.2) kvs xs → ∀ (j : Nat) (b : Addr) (kv : List Key × V), (xs.map fun q => q.2.1)[j]? = some b → kvs[j]? = some kv → H b = some (.tup (kv.1.map kV))
  | .nil, j, b, kv, h, _ => by cases h
  | .cons r t, 0, b, kv, h, h' => by cases h; cases h'; exact r.2.1
  | .cons r t, j + 1, b, kv, h, h' => paired_at t j b kv h h'
end
end L2
set_option Elab.async false
set_option linter.all false
set_option maxRecDepth 100000
set_option maxHeartbeats 4000000
namespace L2
open PySem PySem.Spec PyProof.Rows
section
open PySem.SeqAt
open PySem.AutoSeq1 (wpAny_loadPart')
open PySem.MeetsSeq PySem.MeetsSeq2 PySem.MeetsSeq3
end
section
variable {X : Cx}
end
end L2
set_option Elab.async false
set_option linter.all false
set_option maxRecDepth 100000
set_option maxHeartbeats 4000000
namespace L2
open PySem PySem.Spec PyProof.Rows
open PySem.W (kas_sort kas_ask)
section
variable {prog : Program} {w : World} {A : Around} {E : Value → Shared → Prop} {s : Shared} {R : Result → Shared → Prop}
end
end L2
set_option Elab.async false
set_option linter.all false
set_option maxRecDepth 100000
set_option maxHeartbeats 4000000
namespace L2
open PySem PySem.Spec PyProof.Rows
open PySem.W (kas_sort kas_ask)
section
variable {prog : Program} {w : World} {A : Around} {E : Value → Shared → Prop} {s : Shared} {C : Bool → Shared → Prop}
end
end L2
set_option Elab.async false
set_option linter.all false
set_option maxRecDepth 100000
set_option maxHeartbeats 4000000
namespace L2
open PySem PySem.Spec PyProof.Rows
open PySem.W (KasT kas_asc kas_desc kas_rev kas_tail3 kas_descPart kas_count kas_place kas_bin kas_sort)
structure Tot (n : Nat) (ans : Nat → Nat → Bool) : Prop where
  irr : ∀ i, ans i i = false
  tr : ∀ i j k, ans i j = true → ans j k = true → ans i k = true
  tot : ∀ i j, i < n → j < n → i ≠ j → ans i j = true ∨ ans j i = true
def Up (ans : Nat → Nat → Bool) (p : Array Nat) (m : Nat) : Prop := ∀ i j, i < j → j < m → ans (p.getD i 0) (p.getD j 0) = true
def Down (ans : Nat → Nat → Bool) (p : Array Nat) (m : Nat) : Prop := ∀ i j, i < j → j < m → ans (p.getD j 0) (p.getD i 0) = true
theorem ansT_bind {α β : Type} {ans : Nat → Nat → Bool} {f : α → KasT β} : ∀ t : KasT α, ansT ans (t.bind f) = ansT ans (f (ansT ans t))
  | .ret _ => rfl
  | .ask i j k => ansT_bind (k (ans i j))
section
variable {n : Nat} {ans : Nat → Nat → Bool}
theorem Ord.ne {p : Array Nat} (h : Ord n p) {i j : Nat} (hij : i < j) (hj : j < n) : p.getD i 0 ≠ p.getD j 0 := by
  have z : p.size = n := by have := h.length_eq; simpa using this
  have nd : p.toList.Nodup := h.nodup_iff.mpr List.nodup_range
  have e1 : p.getD i 0 = p.toList[i]'(by simp; omega) := by simp [Array.getD, show i < p.size by omega]
  have e2 : p.getD j 0 = p.toList[j]'(by simp; omega) := by simp [Array.getD, show j < p.size by omega]
  rw [e1, e2]
  exact (List.pairwise_iff_getElem.mp nd) i j _ _ hij
theorem Tot.fl (T : Tot n ans) {p : Array Nat} (h : Ord n p) {i j : Nat} (hij : i < j) (hj : j < n) (hf : ans (p.getD j 0) (p.getD i 0) = false) : ans (p.getD i 0) (p.getD j 0) = true := by
  rcases T.tot _ _ (h.get (by omega) i) (h.get (by omega) j) (h.ne hij hj) with z | z
  · exact z
  · rw [hf] at z; cases z
theorem Up.step (T : Tot n ans) {p : Array Nat} {m : Nat} (u : Up ans p m) (h : ∀ i, i + 1 = m → ans (p.getD i 0) (p.getD m 0) = true) : Up ans p (m + 1) := fun i j hij hj => by
  by_cases z : j < m
  · exact u i j hij z
  · have e : j = m := by omega
    subst e
    by_cases y : i + 1 = j
    · exact h i y
    · exact T.tr _ _ _ (u i (j - 1) (by omega) (by omega)) (h (j - 1) (by omega))
theorem Down.step (T : Tot n ans) {p : Array Nat} {m : Nat} (u : Down ans p m) (h : ∀ i, i + 1 = m → ans (p.getD m 0) (p.getD i 0) = true) : Down ans p (m + 1) := fun i j hij hj => by
  by_cases z : j < m
  · exact u i j hij z
  · have e : j = m := by omega
    subst e
    by_cases y : i + 1 = j
    · exact h i y
    · exact T.tr _ _ _ (h (j - 1) (by omega)) (u i (j - 1) (by omega) (by omega))
theorem up_asc (T : Tot n ans) {p : Array Nat} (h : Ord n p) : ∀ f m, 1 ≤ m → m + f = n → Up ans p m → m ≤ ansT ans (kas_asc p f m) ∧ ansT ans (kas_asc p f m) ≤ n ∧ Up ans p (ansT ans (kas_asc p f m)) ∧ (ansT ans (kas_asc p f m) < n → ans (p.getD (ansT ans (kas_asc p f m)) 0) (p.getD (ansT ans (kas_asc p f m) - 1) 0) = true)
  | 0, m, h1, hm, u => ⟨Nat.le_refl _, by show m ≤ n; omega, u, fun z => by have : m < n := z; omega⟩
  | f + 1, m, h1, hm, u => by
    have e : ansT ans (kas_asc p (f + 1) m) = ansT ans (if ans (p.getD m 0) (p.getD (m - 1) 0) = true then .ret m else kas_asc p f (m + 1)) := rfl
    rw [e]
    cases c : ans (p.getD m 0) (p.getD (m - 1) 0) with
    | true => rw [if_pos rfl]; exact ⟨Nat.le_refl _, by show m ≤ n; omega, u, fun _ => c⟩
    | false =>
      rw [if_neg (by decide)]
      obtain ⟨a1, a2, a3⟩ := up_asc T h f (m + 1) (by omega) (by omega) (u.step T fun i hi => by
        have e : m - 1 = i := by omega
        rw [e] at c
        exact T.fl h (by omega) (by omega) c)
      exact ⟨by omega, a2, a3⟩
theorem down_desc (T : Tot n ans) {p : Array Nat} (h : Ord n p) : ∀ f m, 1 ≤ m → m + f = n → Down ans p m → ∃ m', ansT ans (kas_desc f p m 0) = (p, m', 0) ∧ m ≤ m' ∧ m' ≤ n ∧ Down ans p m'
  | 0, m, h1, hm, u => ⟨m, rfl, Nat.le_refl _, by omega, u⟩
  | f + 1, m, h1, hm, u => by
    have e : ansT ans (kas_desc (f + 1) p m 0) = ansT ans (if ans (p.getD m 0) (p.getD (m - 1) 0) = true then (if 0 > 0 then kas_desc f (kas_rev p (m - (0 + 1)) m) (m + 1) 0 else kas_desc f p (m + 1) 0)
      else .ask (p.getD (m - 1) 0) (p.getD m 0) fun d => if d = true then .ret (p, m, 0) else kas_desc f p (m + 1) (0 + 1)) := rfl
    rw [e]
    cases c : ans (p.getD m 0) (p.getD (m - 1) 0) with
    | true =>
      rw [if_pos rfl, if_neg (by decide)]
      obtain ⟨m', a1, a2, a3⟩ := down_desc T h f (m + 1) (by omega) (by omega) (u.step T fun i hi => by
        have e : m - 1 = i := by omega
        rw [e] at c
        exact c)
      exact ⟨m', a1, by omega, a3⟩
    | false =>
      rw [if_neg (by decide)]
      have y := T.fl h (i := m - 1) (j := m) (by omega) (by omega) c
      show ∃ m', ansT ans (if ans (p.getD (m - 1) 0) (p.getD m 0) = true then .ret (p, m, 0) else kas_desc f p (m + 1) (0 + 1)) = _ ∧ _
      rw [y, if_pos rfl]
      exact ⟨m, rfl, Nat.le_refl _, by omega, u⟩
theorem rev_getD {p : Array Nat} {m : Nat} (hm : m ≤ p.size) {k : Nat} (hk : k < m) : (kas_rev p 0 m).getD k 0 = p.getD (m - 1 - k) 0 := by
  have e : (kas_rev p 0 m)[k]? = p[m - 1 - k]? := by
    unfold kas_rev
    rw [getElem?_mirror_all hm, if_pos (by omega)]
    congr 1
    omega
  rw [Array.getD_eq_getD_getElem?, Array.getD_eq_getD_getElem?, e]
theorem up_count (T : Tot n ans) (hn : 0 < n) {p : Array Nat} (h : Ord n p) : ∃ m p', ansT ans (kas_count n p) = (m, p') ∧ 1 ≤ m ∧ m ≤ n ∧ Up ans p' m := by
  have u1 : Up ans p 1 := fun i j hij hj => by omega
  have z : p.size = n := by have := h.length_eq; simpa using this
  obtain ⟨a1, a2, a3, a4⟩ := up_asc T h (n - 1) 1 (Nat.le_refl _) (by omega) u1
  unfold kas_count
  rw [ansT_bind]
  generalize ansT ans (kas_asc p (n - 1) 1) = m at a1 a2 a3 a4 ⊢
  by_cases c1 : m = n
  · subst c1
    simp only [beq_self_eq_true, if_true]
    exact ⟨m, p, rfl, a1, a2, a3⟩
  · have c1' : (m == n) = false := beq_eq_false_iff_ne.mpr c1
    simp only [c1', Bool.false_eq_true, if_false]
    by_cases c2 : m > 1
    · rw [if_pos c2]
      have y := a3 0 (m - 1) (by omega) (by omega)
      show ∃ m' p', ansT ans (if ans (p.getD 0 0) (p.getD (m - 1) 0) = true then .ret (m, p) else kas_descPart m n (kas_rev p 0 m)) = _ ∧ _
      rw [y, if_pos rfl]
      exact ⟨m, p, rfl, a1, a2, a3⟩
    · have e : m = 1 := by omega
      subst e
      rw [if_neg c2]
      have y := a4 (by omega)
      have d2 : Down ans p (1 + 1) := fun i j hij hj => by
        have e1 : i = 0 := by omega
        have e2 : j = 1 := by omega
        subst e1 e2
        exact y
      obtain ⟨m', b1, b2, b3, b4⟩ := down_desc T h (n - (1 + 1)) (1 + 1) (by omega) (by omega) d2
      unfold kas_descPart
      rw [ansT_bind, b1]
      simp only [gt_iff_lt, Nat.lt_irrefl, if_false]
      unfold kas_tail3
      rw [ansT_bind]
      have o2 : Ord n (kas_rev p 0 m') := h.rev _ _
      have u2 : Up ans (kas_rev p 0 m') m' := fun i j hij hj => by
        rw [rev_getD (by omega) (by omega), rev_getD (by omega) (by omega)]
        exact b4 _ _ (by omega) (by omega)
      obtain ⟨g1, g2, g3, g4⟩ := up_asc T o2 (n - m') m' (by omega) (by omega) u2
      exact ⟨_, _, rfl, by omega, g2, g3⟩
theorem place_up (T : Tot n ans) {p : Array Nat} (h : Ord n p) {k : Nat} (hk : k < n) (u : Up ans p k) : ∀ f l r, l ≤ r → r ≤ k → r - l ≤ f → (∀ i, i < l → ans (p.getD i 0) (p.getD k 0) = true) → (∀ i, r ≤ i → i < k → ans (p.getD k 0) (p.getD i 0) = true) →
    ∃ l', ansT ans (kas_place p k f l r) = l' ∧ l' ≤ k ∧ (∀ i, i < l' → ans (p.getD i 0) (p.getD k 0) = true) ∧ (∀ i, l' ≤ i → i < k → ans (p.getD k 0) (p.getD i 0) = true)
  | 0, l, r, h1, h2, h3, hl, hr => ⟨l, rfl, by omega, hl, fun i a b => hr i (by omega) b⟩
  | f + 1, l, r, h1, h2, h3, hl, hr => by
    unfold kas_place
    by_cases c : l ≥ r
    · rw [if_pos c]; exact ⟨l, rfl, by omega, hl, fun i a b => hr i (by omega) b⟩
    · rw [if_neg c]
      show ∃ l', ansT ans (if ans (p.getD k 0) (p.getD ((l + r) / 2) 0) = true then kas_place p k f l ((l + r) / 2) else kas_place p k f ((l + r) / 2 + 1) r) = l' ∧ _
      have m1 : l ≤ (l + r) / 2 := by omega
      have m2 : (l + r) / 2 < r := by omega
      cases e : ans (p.getD k 0) (p.getD ((l + r) / 2) 0) with
      | true =>
        rw [if_pos rfl]
        refine place_up T h hk u f l _ m1 (by omega) (by omega) hl fun i a b => ?_
        by_cases y : i = (l + r) / 2
        · rw [y]; exact e
        · exact T.tr _ _ _ e (u _ _ (by omega) b)
      | false =>
        rw [if_neg (by decide)]
        have y := T.fl h (i := (l + r) / 2) (j := k) (by omega) hk e
        refine place_up T h hk u f _ r (by omega) h2 (by omega) (fun i a => ?_) hr
        by_cases x : i = (l + r) / 2
        · rw [x]; exact y
        · exact T.tr _ _ _ (u i ((l + r) / 2) (by omega) (by omega)) y
theorem bub_getD {p : Array Nat} {k l : Nat} (hk : k < p.size) (hl : l ≤ k) (i : Nat) : (bubble p k (k - l)).getD i 0 = if i = l then p.getD k 0 else if l < i ∧ i ≤ k then p.getD (i - 1) 0 else p.getD i 0 := by
  have e := getElem?_bubble hk (k - l) (by omega) i
  have x : k - (k - l) = l := by omega
  rw [x] at e
  rw [Array.getD_eq_getD_getElem?, e]
  by_cases c1 : i = l
  · rw [if_pos c1, if_pos c1, Array.getD_eq_getD_getElem?]
  · rw [if_neg c1, if_neg c1]
    by_cases c2 : l < i ∧ i ≤ k
    · rw [if_pos c2, if_pos c2, Array.getD_eq_getD_getElem?]
    · rw [if_neg c2, if_neg c2, Array.getD_eq_getD_getElem?]
theorem up_bin (T : Tot n ans) : ∀ f (p : Array Nat) k, Ord n p → 1 ≤ k → k + f = n → Up ans p k → Up ans (ansT ans (kas_bin f p k)) n
  | 0, p, k, h, h1, hk, u => by have e : k = n := by omega
                                subst e; exact u
  | f + 1, p, k, h, h1, hk, u => by
    have z : p.size = n := by have := h.length_eq; simpa using this
    unfold kas_bin
    rw [ansT_bind]
    obtain ⟨l, e, a1, a2, a3⟩ := place_up T h (k := k) (by omega) u k 0 k (Nat.zero_le _) (Nat.le_refl _) (by omega) (fun i hi => by omega) (fun i a b => by omega)
    rw [e]
    refine up_bin T f _ (k + 1) (h.of (bubble_perm _ _ _)) (by omega) (by omega) fun i j hij hj => ?_
    rw [bub_getD (by omega) a1, bub_getD (by omega) a1]
    by_cases c1 : i = l
    · rw [if_pos c1, if_neg (by omega), if_pos (by omega)]
      exact a3 _ (by omega) (by omega)
    · rw [if_neg c1]
      by_cases c2 : l < i ∧ i ≤ k
      · rw [if_pos c2, if_neg (by omega), if_pos (by omega)]
        exact u _ _ (by omega) (by omega)
      · rw [if_neg c2]
        by_cases c3 : j = l
        · rw [if_pos c3]; exact a2 _ (by omega)
        · rw [if_neg c3]
          by_cases c4 : l < j ∧ j ≤ k
          · rw [if_pos c4]
            exact u _ _ (by omega) (by omega)
          · rw [if_neg c4]
            exact u _ _ (by omega) (by omega)
theorem up_sort (T : Tot n ans) (hn : 0 < n) : Up ans (ansT ans (kas_sort n)) n := by
  have o0 : Ord n (List.toArray (List.range n)) := by unfold Ord; simp
  obtain ⟨m, p, e, m1, m2, u⟩ := up_count T hn o0
  have o1 : Ord n (m, p).2 := by
    rw [← e]
    exact Asks.ends (asks_count hn o0)
  unfold kas_sort
  rw [ansT_bind, e]
  by_cases c : m < n
  · simp only [c, if_true]
    have x : max m 1 = m := by omega
    rw [x]
    exact up_bin T (n - m) p m o1 m1 (by omega) u
  · simp only [c, if_false]
    have x : m = n := by omega
    subst x
    exact u
end
end L2
set_option Elab.async false
set_option linter.all false
set_option maxRecDepth 100000
set_option maxHeartbeats 4000000
namespace L2
open PySem PySem.Spec PyProof.Rows
open PySem.W (kas_sort kas_ask)
section
variable {X : Cx} {pins : List (Addr × Obj)} {σ : St} {H : Hp} {s : Shared}
end
def TupR (h : Heap) (v : Value) (ns ms : List Int) (l r : Bool) : Prop := ∃ (a : Addr) (x y : Value) (n : Nat) (dd : Option Addr) (sl : Array (Option Value)), v = .ref a ∧ h.get? a = some { cls := .type "tuple", dict := dd, data := .seq #[x, y, .bool l, .bool r] n, slots := sl } ∧ TupI h x ns ∧ TupI h y ms
theorem TupR.keeps {g h : Heap} {v : Value} {ns ms : List Int} {l r : Bool} (t : TupR g v ns ms l r) (k : Keeps g h) : TupR h v ns ms l r := by
  obtain ⟨a, x, y, n, dd, sl, e, o, i, j⟩ := t
  exact ⟨a, x, y, n, dd, sl, e, k _ _ o, i.keeps k, j.keeps k⟩
section
variable {prog : Program} {w : World} {A : Around} {E : Value → Shared → Prop} {s : Shared} {C : Bool → Shared → Prop}
end
open PySem.W (KatTups) in
section
variable {X : Cx} {pins : List (Addr × Obj)} {σ : St} {H : Hp} {s : Shared}
end
end L2
set_option Elab.async false
set_option linter.all false
set_option maxRecDepth 100000
set_option maxHeartbeats 4000000
namespace L2
open PySem PySem.Spec PyProof.Rows
open PySem.W (CodeHd codeHdIn tabIn)
structure FunC (K : PySem.W.Frag) (x qual : Str) (st : Stmt) (f : Addr) (fd : FuncData) (c P : Addr) : Prop where
  ex : ∃ (oc : Value) (od : Option Addr) (kV doc pm : Value) (an : Option Addr) (ct : Value) (osl : Array (Option Value)),
    fd = PySem.W.fnOf x qual (defArgs st) (defBody st) (defScope st) .none kV doc pm an (.ref c) ct ∧ K.lookup f = some ⟨oc, od, .func fd, osl⟩ ∧ PySem.W.codeIn K (.ref c) qual = true
  hd : codeHdIn K c P = true
section
variable {P : Program} {w : World} {K : PySem.W.Frag} {mg : Str → Option Value} {base : Heap}
theorem FunC.ok {x qual : Str} {st : Stmt} {f c tb : Addr} {fd : FuncData} {N ps : List Str} {k : Nat} {sp : Sp} (F : FunC K x qual st f fd c tb) (S : FnScope N ps (defScope st)) (len : ∀ vs H Q E, sp vs H Q E → vs.length = ps.length)
    (hbody : ∀ (A : Around) (outer : List Env) (s : Shared) (H : Hp) (vs : List V) (Q : VK) (E : XK), Room k (A.deeper (envOfC qual (defScope st) s.heap.objs.size f (.ref c))) → sp vs H Q E →
      ∃ t, PSs (cxOf CX0 P w K mg base N qual (defScope st) f (.ref c) A outer s H E).nox (defBody st) t ∧ t { nx := fun _ H' => Q .non H', rt := Q } (start N vs) H) : FnOk P w K mg base CX0 (k + 1) f fd ps sp := by
  obtain ⟨oc, od, kV, doc, pm, an, ct, osl, rfl, lk, hcd⟩ := F.ex
  refine fn_of lk hcd S len fun A outer s H vs Q E hr hsp => ?_
  obtain ⟨t, h, q⟩ := hbody A outer s H vs Q E hr hsp
  exact ⟨t, h.nox, q⟩
end
section
variable {X : Cx}
end
theorem LamTab.ne {H : Hp} {P : Addr} {pos : Pos} {q : Str} (t : LamTab H P pos q) {a : Addr} {o : HO} (h : H a = some o) (n : ∀ ps, o ≠ .tbl ps) : a ≠ P := fun z => by
  obtain ⟨ps, e, _⟩ := t
  rw [z, e] at h
  cases h
  exact n ps rfl
theorem SameT.tup {P : Addr} {pos : Pos} {q : Str} {H H' : Hp} (g : SameT P H H') (t : LamTab H P pos q) {a : Addr} {xs : List V} (h : H a = some (.tup xs)) : H' a = some (.tup xs) := g a _ (t.ne h fun _ z => nomatch z) h
theorem SameT.lst {P : Addr} {pos : Pos} {q : Str} {H H' : Hp} (g : SameT P H H') (t : LamTab H P pos q) {a : Addr} {xs : List V} (h : H a = some (.lst xs)) : H' a = some (.lst xs) := g a _ (t.ne h fun _ z => nomatch z) h
end L2
set_option Elab.async false
set_option linter.all false
set_option maxRecDepth 100000
set_option maxHeartbeats 4000000
namespace L2
open PySem PySem.Spec PyProof.Rows
open PySem.W (kas_sort)
structure STO {α : Type} (lt : α → α → Bool) : Prop where
  irr : ∀ a, lt a a = false
  tr : ∀ a b c, lt a b = true → lt b c = true → lt a c = true
  tot : ∀ a b, a ≠ b → lt a b = true ∨ lt b a = true
def lexB {α β : Type} [DecidableEq α] (r : α → α → Bool) (s : β → β → Bool) (a b : α × β) : Bool := if a.1 = b.1 then s a.2 b.2 else r a.1 b.1
theorem STO.lex {α β : Type} [DecidableEq α] {r : α → α → Bool} {s : β → β → Bool} (R : STO r) (S : STO s) : STO (lexB r s) where
  irr a := by unfold lexB; rw [if_pos rfl]; exact S.irr _
  tr a b c h1 h2 := by
    unfold lexB at *
    by_cases e1 : a.1 = b.1
    · rw [if_pos e1] at h1
      by_cases e2 : b.1 = c.1
      · rw [if_pos e2] at h2
        rw [if_pos (e1.trans e2)]
        exact S.tr _ _ _ h1 h2
      · rw [if_neg e2] at h2
        rw [if_neg (fun z => e2 (e1.symm.trans z)), e1]
        exact h2
    · rw [if_neg e1] at h1
      by_cases e2 : b.1 = c.1
      · rw [if_neg (fun z => e1 (z.trans e2.symm)), ← e2]
        exact h1
      · rw [if_neg e2] at h2
        have n : a.1 ≠ c.1 := fun z => by
          rw [← z] at h2
          have := R.tr _ _ _ h1 h2
          rw [R.irr] at this
          cases this
        rw [if_neg n]
        exact R.tr _ _ _ h1 h2
  tot a b h := by
    unfold lexB
    by_cases e : a.1 = b.1
    · rw [if_pos e, if_pos e.symm]
      exact S.tot _ _ fun z => h (Prod.ext e z)
    · rw [if_neg e, if_neg fun z => e z.symm]
      exact R.tot _ _ e
theorem STO.int : STO (fun a b : Int => decide (a < b)) where
  irr a := decide_eq_false (by omega)
  tr a b c h1 h2 := decide_eq_true (by have := of_decide_eq_true h1; have := of_decide_eq_true h2; omega)
  tot a b h := by
    rcases Int.lt_or_gt_of_ne h with h | h
    · exact .inl (decide_eq_true h)
    · exact .inr (decide_eq_true h)
abbrev lt2 : Int × Int → Int × Int → Bool := lexB (fun a b => decide (a < b)) (fun a b => decide (a < b))
theorem sto2 : STO lt2 := STO.int.lex STO.int
abbrev lt3 : Int × Int × Int → Int × Int × Int → Bool := lexB (fun a b => decide (a < b)) lt2
theorem sorted_of {α β : Type} {lt : β → β → Bool} (S : STO lt) (k : α → β) (z : α) {fs : List α} (nd : (fs.map k).Nodup) {p : Array Nat} (or : Ord fs.length p) (ep : 2 ≤ fs.length → p = ansT (fun i j => lt (k (fs.getD i z)) (k (fs.getD j z))) (kas_sort fs.length)) :
    (p.toList.map fun i => fs.getD i z).Perm fs ∧ (p.toList.map fun i => fs.getD i z).Pairwise fun a b => lt (k a) (k b) = true := by
  have rg : ((List.range fs.length).map fun i => fs.getD i z) = fs := by
    refine List.ext_getElem (by simp) fun i h1 h2 => ?_
    have hi : i < fs.length := h2
    simp [hi]
  have lo : p.toList.length = fs.length := by rw [or.length_eq, List.length_range]
  refine ⟨?_, ?_⟩
  · have := or.map fun i => fs.getD i z
    rw [rg] at this
    exact this
  · by_cases h2 : 2 ≤ fs.length
    · have nd' := List.pairwise_map.mp nd
      have T : Tot fs.length (fun i j => lt (k (fs.getD i z)) (k (fs.getD j z))) := ⟨fun i => S.irr _, fun i j l => S.tr _ _ _, fun i j hi hj hn => S.tot _ _ fun e => hn (by
        have e1 : fs.getD i z = fs[i] := by simp [hi]
        have e2 : fs.getD j z = fs[j] := by simp [hj]
        rw [e1, e2] at e
        rcases Nat.lt_trichotomy i j with h | h | h
        · exact absurd e ((List.pairwise_iff_getElem.mp nd') i j hi hj h)
        · exact h
        · exact absurd e.symm ((List.pairwise_iff_getElem.mp nd') j i hj hi h))⟩
      have u := up_sort T (by omega)
      rw [← ep h2] at u
      refine List.pairwise_iff_getElem.mpr fun i j hi hj hij => ?_
      have hi' : i < p.size := by simpa using hi
      have hj' : j < p.size := by simpa using hj
      have hn : p.size = fs.length := by simpa using lo
      have := u i j hij (by omega)
      have e1 : p.getD i 0 = p[i] := by simp [Array.getD, hi']
      have e2 : p.getD j 0 = p[j] := by simp [Array.getD, hj']
      rw [e1, e2] at this
      simpa using this
    · have l1 : (p.toList.map fun i => fs.getD i z).length ≤ 1 := by rw [List.length_map, lo]; omega
      revert l1
      generalize (p.toList.map fun i => fs.getD i z) = ws
      intro l1
      match ws, l1 with
      | [], _ => exact .nil
      | [a], _ => exact List.pairwise_singleton _ _
end L2
namespace L2
open PySem
theorem hu80 {A : Around} {k : Nat} (hr : Room k A) : A.units + 80 < cLine := by have := hu100 hr; omega
def lamAt (st : Stmt) : Scope × Pos := match (defBody st).getLast? with
  | some (.Return (some (.Call _ _ (⟨_, .Lambda _ _ sc lp, _⟩ :: _) _)) _) => (sc, lp)
  | _ => (defScope st, ⟨0, 0, 0, 0⟩)
end L2
set_option Elab.async false
set_option linter.all false
set_option maxRecDepth 100000
set_option maxHeartbeats 4000000
namespace L2
open PySem PySem.Spec PyProof.Rows
def rnd (mask : Nat) : Nat → Nat → Nat
  | 0, i => i
  | s + 1, i => rnd mask s ((i * 5 + 1) % (mask + 1))
theorem rnd_add (mask : Nat) : ∀ (s t i : Nat), rnd mask (s + t) i = rnd mask t (rnd mask s i)
  | 0, t, i => by rw [Nat.zero_add]; rfl
  | s + 1, t, i => by
    rw [show s + 1 + t = (s + t) + 1 by omega]
    exact rnd_add mask s t _
def goodM (mask : Nat) : Prop := mask = 7 ∨ mask = 31 ∨ mask = 127
def rndL (mask : Nat) : Nat → Nat → List Nat
  | 0, i => [i]
  | s + 1, i => i :: rndL mask s ((i * 5 + 1) % (mask + 1))
theorem mem_rndL (mask : Nat) : ∀ (s i e : Nat), e ∈ rndL mask s i → ∃ t, t ≤ s ∧ rnd mask t i = e
  | 0, i, e, h => ⟨0, Nat.le_refl _, (List.mem_singleton.mp h).symm⟩
  | s + 1, i, e, h => by
    rcases List.mem_cons.mp h with h | h
    · exact ⟨0, Nat.zero_le _, h.symm⟩
    · obtain ⟨t, ht, e'⟩ := mem_rndL mask s _ e h
      exact ⟨t + 1, by omega, e'⟩
theorem all7 : (List.range 8).all (fun e => (rndL 7 7 0).contains e) = true ∧ rnd 7 8 0 = 0 := by decide +kernel
theorem all31 : (List.range 32).all (fun e => (rndL 31 31 0).contains e) = true ∧ rnd 31 32 0 = 0 := by decide +kernel
theorem all127 : (List.range 128).all (fun e => (rndL 127 127 0).contains e) = true ∧ rnd 127 128 0 = 0 := by decide +kernel
theorem rnd_from0 {mask : Nat} (h : goodM mask) : (∀ e, e ≤ mask → ∃ t, t ≤ mask ∧ rnd mask t 0 = e) ∧ rnd mask (mask + 1) 0 = 0 := by
  have key : ∀ m, (List.range (m + 1)).all (fun e => (rndL m m 0).contains e) = true → ∀ e, e ≤ m → ∃ t, t ≤ m ∧ rnd m t 0 = e := fun m hm e he => by
    have z := List.all_eq_true.mp hm e (List.mem_range.mpr (by omega))
    exact mem_rndL m m 0 e (List.contains_iff_mem.mp z)
  rcases h with rfl | rfl | rfl
  · exact ⟨key 7 all7.1, all7.2⟩
  · exact ⟨key 31 all31.1, all31.2⟩
  · exact ⟨key 127 all127.1, all127.2⟩
theorem rnd_all {mask : Nat} (h : goodM mask) {i e : Nat} (hi : i ≤ mask) (he : e ≤ mask) : ∃ t, t ≤ mask ∧ rnd mask t i = e := by
  obtain ⟨all, z⟩ := rnd_from0 h
  obtain ⟨a, ha, ea⟩ := all i hi
  obtain ⟨b, hb, eb⟩ := all e he
  by_cases c : a ≤ b
  · refine ⟨b - a, by omega, ?_⟩
    rw [← ea, ← rnd_add, show a + (b - a) = b by omega]
    exact eb
  · refine ⟨mask + 1 - a + b, by omega, ?_⟩
    rw [← ea, ← rnd_add, show a + (mask + 1 - a + b) = (mask + 1) + b by omega, rnd_add, z]
    exact eb
def leaps (mask : Nat) : Nat → Nat × Nat → Nat × Nat
  | 0, p => p
  | m + 1, p => leaps mask m (SetTable.leap mask p.1 p.2)
theorem leaps_add (mask : Nat) : ∀ (s t : Nat) (p : Nat × Nat), leaps mask (s + t) p = leaps mask t (leaps mask s p)
  | 0, t, p => by rw [Nat.zero_add]; rfl
  | s + 1, t, p => by
    rw [show s + 1 + t = (s + t) + 1 by omega]
    exact leaps_add mask s t _
theorem leaps_pert (mask : Nat) : ∀ (m : Nat) (p : Nat × Nat), (leaps mask m p).2 = p.2 / 32 ^ m
  | 0, p => by show p.2 = _; rw [Nat.pow_zero, Nat.div_one]
  | m + 1, p => by
    show (leaps mask m (SetTable.leap mask p.1 p.2)).2 = _
    rw [leaps_pert mask m]
    show p.2 / 32 / 32 ^ m = _
    rw [Nat.div_div_eq_div_mul, Nat.pow_succ, Nat.mul_comm]
theorem leaps_zero (mask : Nat) : ∀ (m i : Nat), leaps mask m (i, 0) = (rnd mask m i, 0)
  | 0, i => rfl
  | m + 1, i => by
    show leaps mask m (SetTable.leap mask i 0) = _
    have e : SetTable.leap mask i 0 = ((i * 5 + 1) % (mask + 1), 0) := by unfold SetTable.leap; simp
    rw [e, leaps_zero mask m]
    rfl
theorem leaps_le (mask : Nat) : ∀ (m : Nat) (p : Nat × Nat), p.1 ≤ mask → (leaps mask m p).1 ≤ mask
  | 0, p, h => h
  | m + 1, p, h => leaps_le mask m _ (Nat.le_of_lt_succ (Nat.mod_lt _ (Nat.succ_pos _)))
theorem leaps_all {mask : Nat} (h : goodM mask) {p : Nat × Nat} (hi : p.1 ≤ mask) (hp : p.2 < 2 ^ 64) {e : Nat} (he : e ≤ mask) : ∃ m, m ≤ mask + 13 ∧ (leaps mask m p).1 = e := by
  have z : (leaps mask 13 p).2 = 0 := by
    rw [leaps_pert]
    exact Nat.div_eq_of_lt (Nat.lt_of_lt_of_le hp (by decide))
  have q : leaps mask 13 p = ((leaps mask 13 p).1, 0) := Prod.ext rfl z
  obtain ⟨t, ht, et⟩ := rnd_all h (leaps_le mask 13 p hi) he
  refine ⟨13 + t, by omega, ?_⟩
  rw [leaps_add, q, leaps_zero]
  exact et
theorem bits_lt (h : Int) : SetTable.bits h < 2 ^ 64 := by
  unfold SetTable.bits
  have h1 := Int.emod_lt_of_pos h (show (0 : Int) < 2 ^ 64 by decide)
  have h2 := Int.emod_nonneg h (show (2 ^ 64 : Int) ≠ 0 by decide)
  omega
end L2
set_option Elab.async false
set_option linter.all false
set_option maxRecDepth 100000
set_option maxHeartbeats 4000000
namespace L2
open PySem PySem.Spec PyProof.Rows
structure TabOk (t : SetTable) (n : Nat) : Prop where
  good : goodM t.mask
  nod : t.dummies = #[]
  size : t.place.size = n
  room : n ≤ t.mask
theorem TabOk.fits {t : SetTable} {n : Nat} (h : TabOk t n) : t.fits n = true := by
  unfold SetTable.fits SetTable.fill
  rw [h.size, h.nod]
  simp
  have := h.room
  omega
theorem slot_live {t : SetTable} {n j i : Nat} (h : TabOk t n) (e : t.slot j = .live i) : t.place[i]? = some j ∧ i < n := by
  unfold SetTable.slot at e
  by_cases c : (t.place[SetTable.below t.place j]? == some j) = true
  · simp only [c, if_true] at e
    cases e
    have c' := beq_iff_eq.mp c
    refine ⟨c', ?_⟩
    have := (Array.getElem?_eq_some_iff.mp c').1
    rw [← h.size]
    exact this
  · simp only [c, if_false] at e
    cases hd : SetTable.has t.dummies j <;> rw [hd] at e <;> simp at e
theorem slot_kind {t : SetTable} {n : Nat} (h : TabOk t n) (j : Nat) : t.slot j = .empty ∨ ∃ i, t.slot j = .live i := by
  unfold SetTable.slot
  by_cases c : (t.place[SetTable.below t.place j]? == some j) = true
  · simp only [c, if_true]
    exact .inr ⟨_, rfl⟩
  · simp only [c, if_false]
    have z : SetTable.has t.dummies j = false := by
      unfold SetTable.has
      rw [h.nod]
      simp
    rw [z]
    exact .inl rfl
theorem empty_slot {t : SetTable} {n : Nat} (h : TabOk t n) : ∃ e, e ≤ t.mask ∧ t.slot e = .empty := by
  refine Classical.byContradiction fun no => ?_
  have all : ∀ e, e ∈ List.range (t.mask + 1) → e ∈ t.place.toList := fun e he => by
    have he' := List.mem_range.mp he
    rcases slot_kind h e with z | ⟨i, z⟩
    · exact absurd ⟨e, by omega, z⟩ no
    · have := (slot_live h z).1
      rw [← Array.getElem?_toList] at this
      exact List.mem_of_getElem? this
  have len := (List.nodup_range (n := t.mask + 1)).length_le_of_subset all
  rw [List.length_range, Array.length_toList, h.size] at len
  have := h.room
  omega
def adv (t : SetTable) : Nat → SetTable.Probe → SetTable.Probe
  | 0, p => p
  | k + 1, p => adv t k (t.advance p)
theorem adv_add (t : SetTable) : ∀ (a b : Nat) (p : SetTable.Probe), adv t (a + b) p = adv t b (adv t a p)
  | 0, b, p => by rw [Nat.zero_add]; rfl
  | a + 1, b, p => by
    rw [show a + 1 + b = (a + b) + 1 by omega]
    exact adv_add t a b _
theorem adv_dummy (t : SetTable) (p : SetTable.Probe) : (t.advance p).dummy = p.dummy := by
  unfold SetTable.advance
  split <;> rfl
theorem adv_run (t : SetTable) : ∀ (r : Nat) (p : SetTable.Probe), p.more = r → adv t (r + 1) p = ⟨(SetTable.leap t.mask p.i p.perturb).1, SetTable.runEnd t.mask (SetTable.leap t.mask p.i p.perturb).1 - (SetTable.leap t.mask p.i p.perturb).1, (SetTable.leap t.mask p.i p.perturb).1, (SetTable.leap t.mask p.i p.perturb).2, p.dummy⟩
  | 0, p, h => by
    show t.advance p = _
    unfold SetTable.advance
    rw [if_neg (by omega)]
  | r + 1, p, h => by
    show adv t (r + 1) (t.advance p) = _
    have e : t.advance p = { p with j := p.j + 1, more := p.more - 1 } := by
      unfold SetTable.advance
      rw [if_pos (by omega)]
    rw [e]
    exact adv_run t r _ (by show p.more - 1 = r; omega)
theorem run_le (mask i : Nat) : SetTable.runEnd mask i - i ≤ 9 := by
  unfold SetTable.runEnd
  split <;> omega
theorem adv_leaps (t : SetTable) : ∀ (m : Nat) (p : SetTable.Probe), p.j = p.i → p.more = SetTable.runEnd t.mask p.i - p.i → ∃ k, k ≤ 10 * m ∧ (adv t k p).j = (leaps t.mask m (p.i, p.perturb)).1
  | 0, p, h1, h2 => ⟨0, Nat.le_refl _, h1⟩
  | m + 1, p, h1, h2 => by
    have e := adv_run t _ p rfl
    obtain ⟨k, hk, ek⟩ := adv_leaps t m (adv t (p.more + 1) p) (by rw [e]) (by rw [e])
    have := run_le t.mask p.i
    refine ⟨p.more + 1 + k, by omega, ?_⟩
    rw [adv_add, ek, e]
    rfl
theorem adv_empty {t : SetTable} {n : Nat} (h : TabOk t n) (hs : Int) : ∃ k, k < 10 * SetTable.turns t.mask ∧ t.slot (adv t k (t.probeStart hs)).j = .empty := by
  obtain ⟨e, he, se⟩ := empty_slot h
  have hi : SetTable.bits hs % (t.mask + 1) ≤ t.mask := Nat.le_of_lt_succ (Nat.mod_lt _ (Nat.succ_pos _))
  obtain ⟨m, hm, em⟩ := leaps_all h.good (p := (SetTable.bits hs % (t.mask + 1), SetTable.bits hs)) hi (bits_lt hs) he
  obtain ⟨k, hk, ek⟩ := adv_leaps t m (t.probeStart hs) rfl rfl
  refine ⟨k, ?_, ?_⟩
  · unfold SetTable.turns
    omega
  · rw [ek]
    show t.slot (leaps t.mask m (SetTable.bits hs % (t.mask + 1), SetTable.bits hs)).1 = _
    rw [em]
    exact se
theorem probe_go {t : SetTable} {n : Nat} (h : TabOk t n) {ha : Nat → Int} {hs : Int} : ∀ (k f : Nat) (p : SetTable.Probe), k < f → p.dummy = none → t.slot (adv t k p).j = .empty →
    (∃ j, SetTable.probe.go t ha hs f p = some (.empty j none) ∧ t.slot j = .empty) ∨ ∃ m j i, m < k ∧ SetTable.probe.go t ha hs f p = some (.candidate j i (adv t (m + 1) p)) ∧ t.slot j = .live i
  | k, 0, p, hf, _, _ => by omega
  | k, f + 1, p, hf, hd, he => by
    unfold SetTable.probe.go
    rcases slot_kind h p.j with z | ⟨i, z⟩
    · rw [z]
      exact .inl ⟨p.j, by rw [hd], z⟩
    · rw [z]
      obtain ⟨k', rfl⟩ : ∃ k', k = k' + 1 := ⟨k - 1, by
        have : k ≠ 0 := fun e => by
          subst e
          have he : t.slot p.j = .empty := he
          rw [z] at he
          cases he
        omega⟩
      by_cases c : (ha i == hs) = true
      · simp only [c, if_true]
        exact .inr ⟨0, p.j, i, by omega, rfl, z⟩
      · simp only [c, if_false]
        rcases probe_go h k' f (t.advance p) (by omega) (by rw [adv_dummy]; exact hd) he with ⟨j, e1, e2⟩ | ⟨m, j, i', hm, e1, e2⟩
        · exact .inl ⟨j, e1, e2⟩
        · exact .inr ⟨m + 1, j, i', by omega, e1, e2⟩
end L2
set_option Elab.async false
set_option linter.all false
set_option maxRecDepth 100000
set_option maxHeartbeats 4000000
namespace L2
open PySem PySem.Spec PyProof.Rows
theorem ins_size {α : Type} (xs : Array α) (p : Nat) (x : α) : (SetTable.insertAt xs p x).size = xs.size + 1 := by
  unfold SetTable.insertAt
  simp
  omega
theorem ins_mem {α : Type} {xs : Array α} {p : Nat} {x y : α} (h : y ∈ (SetTable.insertAt xs p x).toList) : y = x ∨ y ∈ xs.toList := by
  unfold SetTable.insertAt at h
  simp only [Array.toList_append, Array.toList_push, List.mem_append, List.mem_singleton, Array.toList_extract] at h
  rcases h with (h | h) | h
  · exact .inr (List.mem_of_mem_drop (List.mem_of_mem_take h))
  · exact .inl h
  · exact .inr (List.mem_of_mem_drop (List.mem_of_mem_take h))
theorem put_ok {t : SetTable} {n j : Nat} (h : TabOk t n) (hn : n + 1 ≤ t.mask) : TabOk (t.put j).1 (n + 1) := by
  have z : SetTable.has t.dummies j = false := by
    unfold SetTable.has
    rw [h.nod]
    simp
  refine ⟨h.good, ?_, ?_, hn⟩
  · show (if SetTable.has t.dummies j = true then _ else t.dummies) = #[]
    rw [z, if_neg (by decide)]
    exact h.nod
  · show (SetTable.insertAt t.place _ j).size = n + 1
    rw [ins_size, h.size]
def cnt (mask : Nat) (owner : Array (Option Nat)) : Nat := ((List.range (mask + 1)).filter fun j => (owner.getD j none).isSome).length
theorem filter_or {p : Nat → Bool} {j : Nat} (hp : p j = false) : ∀ {l : List Nat}, l.Nodup → j ∈ l → (l.filter fun x => p x || x == j).length = (l.filter p).length + 1
  | [], _, h => by cases h
  | a :: l, nd, h => by
    obtain ⟨na, nd⟩ := List.nodup_cons.mp nd
    by_cases e : a = j
    · subst e
      have z : (l.filter fun x => p x || x == a) = l.filter p := List.filter_congr fun x hx => by
        have : (x == a) = false := beq_eq_false_iff_ne.mpr fun q => na (by rw [← q]; exact hx)
        rw [this, Bool.or_false]
      rw [List.filter_cons, List.filter_cons, z, hp]
      simp
    · have hj : j ∈ l := by
        rcases List.mem_cons.mp h with q | q
        · exact absurd q.symm e
        · exact q
      have ih := filter_or hp nd hj
      have ea : (a == j) = false := beq_eq_false_iff_ne.mpr e
      rw [List.filter_cons, List.filter_cons, ea, Bool.or_false]
      cases p a <;> simp [ih]
structure OwnOk (mask : Nat) (owner : Array (Option Nat)) (k : Nat) : Prop where
  size : owner.size = mask + 1
  cnt : cnt mask owner = k
  lt : ∀ j v, owner.getD j none = some v → v < k
theorem own_free {mask : Nat} {owner : Array (Option Nat)} {k : Nat} (h : OwnOk mask owner k) (hk : k ≤ mask) : ∃ e, e ≤ mask ∧ owner.getD e (some 0) = none := by
  refine Classical.byContradiction fun no => ?_
  have all : ((List.range (mask + 1)).filter fun j => (owner.getD j none).isSome) = List.range (mask + 1) := List.filter_eq_self.mpr fun j hj => by
    have hj' := List.mem_range.mp hj
    have lt : j < owner.size := by rw [h.size]; exact hj'
    cases e : owner[j] with
    | none => exact absurd ⟨j, by omega, by simp [Array.getD, lt, e]⟩ no
    | some v => simp [Array.getD, lt, e]
  have c := h.cnt
  unfold L2.cnt at c
  rw [all, List.length_range] at c
  omega
theorem own_put {mask : Nat} {owner : Array (Option Nat)} {k j : Nat} (h : OwnOk mask owner k) (hj : owner.getD j (some 0) = none) : OwnOk mask (owner.setIfInBounds j (some k)) (k + 1) := by
  have lt : j < owner.size := by
    refine Classical.byContradiction fun n => ?_
    simp [Array.getD, n] at hj
  have e0 : owner.getD j none = none := by
    simp only [Array.getD, lt] at hj ⊢
    simpa using hj
  have gx : ∀ x, (owner.setIfInBounds j (some k)).getD x none = if x = j then some k else owner.getD x none := fun x => by
    rw [Array.getD_eq_getD_getElem?, Array.getElem?_setIfInBounds, Array.getD_eq_getD_getElem?]
    by_cases e : x = j
    · subst e
      rw [if_pos rfl, if_pos rfl, if_pos lt]
      rfl
    · rw [if_neg e, if_neg (fun z => e z.symm)]
  refine ⟨by rw [Array.size_setIfInBounds]; exact h.size, ?_, fun x v e => ?_⟩
  · unfold L2.cnt
    have e1 : ((List.range (mask + 1)).filter fun x => ((owner.setIfInBounds j (some k)).getD x none).isSome) = (List.range (mask + 1)).filter fun x => (owner.getD x none).isSome || x == j := List.filter_congr fun x _ => by
      rw [gx]
      by_cases e : x = j
      · rw [if_pos e, e]; simp
      · rw [if_neg e, beq_eq_false_iff_ne.mpr e, Bool.or_false]
    rw [e1, filter_or (p := fun x => (owner.getD x none).isSome) (by rw [e0]; rfl) List.nodup_range (List.mem_range.mpr (by rw [← h.size]; exact lt))]
    have := h.cnt
    unfold L2.cnt at this
    rw [this]
  · rw [gx] at e
    by_cases c : x = j
    · rw [if_pos c] at e
      cases e
      omega
    · rw [if_neg c] at e
      have := h.lt x v e
      omega
theorem free_some {mask : Nat} {owner : Array (Option Nat)} : ∀ (m f i p : Nat), m < f → owner.getD (leaps mask m (i, p)).1 (some 0) = none → ∃ j, SetTable.layClean.free mask owner f i p = some j ∧ owner.getD j (some 0) = none
  | m, 0, i, p, hf, _ => by omega
  | m, f + 1, i, p, hf, he => by
    unfold SetTable.layClean.free
    cases c : (List.range (SetTable.runEnd mask i + 1 - i)).find? (fun k => (owner.getD (i + k) (some 0)).isNone) with
    | some k =>
      have := List.find?_some c
      exact ⟨i + k, rfl, Option.isNone_iff_eq_none.mp this⟩
    | none =>
      have nz : m ≠ 0 := fun z => by
        subst z
        have he : owner.getD i (some 0) = none := he
        have r : 0 ∈ List.range (SetTable.runEnd mask i + 1 - i) := List.mem_range.mpr (by unfold SetTable.runEnd; split <;> omega)
        have := List.find?_eq_none.mp c 0 r
        rw [Nat.add_zero, he] at this
        exact this rfl
      obtain ⟨m', rfl⟩ : ∃ m', m = m' + 1 := ⟨m - 1, by omega⟩
      exact free_some m' f _ _ (by omega) he
theorem lay_fold {mask : Nat} (g : goodM mask) : ∀ (hs : List Int) (owner : Array (Option Nat)) (k : Nat), OwnOk mask owner k → k + hs.length ≤ mask →
    ∃ owner', hs.foldl (fun acc h => do
      let (owner, k) ← acc
      let j ← SetTable.layClean.free mask owner (SetTable.turns mask) (SetTable.bits h % (mask + 1)) (SetTable.bits h)
      pure (owner.setIfInBounds j (some k), k + 1)) (some (owner, k)) = some (owner', k + hs.length) ∧ OwnOk mask owner' (k + hs.length)
  | [], owner, k, h, _ => ⟨owner, rfl, h⟩
  | x :: hs, owner, k, h, hk => by
    rw [List.length_cons] at hk
    obtain ⟨e, he, ee⟩ := own_free h (by omega)
    obtain ⟨m, hm, em⟩ := leaps_all g (p := (SetTable.bits x % (mask + 1), SetTable.bits x)) (Nat.le_of_lt_succ (Nat.mod_lt _ (Nat.succ_pos _))) (bits_lt x) he
    obtain ⟨j, ej, hj⟩ := free_some (mask := mask) (owner := owner) m (SetTable.turns mask) (SetTable.bits x % (mask + 1)) (SetTable.bits x) (by unfold SetTable.turns; omega) (by rw [em]; exact ee)
    obtain ⟨owner', e1, e2⟩ := lay_fold g hs _ (k + 1) (own_put h hj) (by omega)
    rw [List.foldl_cons, List.length_cons, show k + (hs.length + 1) = k + 1 + hs.length by omega]
    refine ⟨owner', ?_, e2⟩
    rw [← e1]
    congr 1
    show (SetTable.layClean.free mask owner (SetTable.turns mask) (SetTable.bits x % (mask + 1)) (SetTable.bits x)).bind _ = _
    rw [ej]
    rfl
theorem own_start (mask : Nat) : OwnOk mask (Array.replicate (mask + 1) none) 0 := by
  have z : ∀ j, (Array.replicate (mask + 1) (none : Option Nat)).getD j none = none := fun j => by
    rw [Array.getD_eq_getD_getElem?, Array.getElem?_replicate]
    split <;> rfl
  refine ⟨by simp, ?_, fun j v e => by rw [z] at e; cases e⟩
  unfold cnt
  rw [List.filter_eq_nil_iff.mpr fun j _ => by rw [z]; decide]
  rfl
theorem laid_ok {mask : Nat} (g : goodM mask) {hs : Array Int} (hn : hs.size ≤ mask) (fi mo : Nat) (led pl : Bool) : ∃ t order, SetTable.laid mask fi mo led pl hs = some (t, order) ∧ TabOk t hs.size ∧ t.mask = mask ∧ t.led = led ∧ order.size = hs.size ∧ ∀ v, v ∈ order.toList → v < hs.size := by
  obtain ⟨owner, e1, e2⟩ := lay_fold g hs.toList _ 0 (own_start mask) (by simpa using hn)
  have z : 0 + hs.toList.length = hs.size := by simp
  rw [z] at e1 e2
  have e3 : SetTable.layClean mask hs = some owner := by
    unfold SetTable.layClean
    rw [← Array.foldl_toList, e1]
    rfl
  have ll : ((List.range (mask + 1)).filterMap fun j => (owner.getD j none).map (j, ·)).length = hs.size := by
    rw [List.length_filterMap_eq_countP, List.countP_eq_length_filter, ← e2.cnt]
    unfold cnt
    congr 1
    refine List.filter_congr fun j _ => ?_
    cases owner.getD j none <;> rfl
  refine ⟨_, _, by unfold SetTable.laid; rw [e3]; rfl, ⟨g, rfl, ?_, hn⟩, rfl, rfl, ?_, fun v hv => ?_⟩
  · simp only [List.size_toArray, List.length_map]
    exact ll
  · simp only [List.size_toArray, List.length_map]
    exact ll
  · simp only [List.mem_map, List.mem_filterMap] at hv
    obtain ⟨⟨j, v'⟩, ⟨j', _, h2⟩, rfl⟩ := hv
    cases e : owner.getD j' none with
    | none => rw [e] at h2; cases h2
    | some u =>
      rw [e] at h2
      cases h2
      exact e2.lt _ _ e
end L2
set_option Elab.async false
set_option linter.all false
set_option maxRecDepth 100000
set_option maxHeartbeats 4000000
namespace L2
open PySem PySem.Spec PyProof.Rows
section
variable {prog : Program} {w : World} {A : Around} {E : Value → Shared → Prop} {s : Shared} {K : Type} [DecidableEq K] {knd : KeyKind prog w K}
def Others (knd : KeyKind prog w K) (h : Heap) (es : Array (Int × Value)) (k : List K) : Prop := ∀ e, e ∈ es.toList → ∃ b k', e.2 = .ref b ∧ IsTupleKey knd h k' b ∧ k' ≠ k
theorem class_no {ks : List K} {a : Addr} {Q : Bool → Shared → Prop} (hk : IsTupleKey knd s.heap ks a) (h : Q false s) : wpAny (model prog w) A (ofAClassStatement 8 (.ref a)) Q E s := by
  have hT := hk.typeIs
  obtain ⟨o, items, n, ho, _, hd, hi⟩ := hk
  unfold ofAClassStatement
  refine wpAny_bind (wpAny_typeOf hT ?_)
  simp only [beq_self_eq_true, if_true]
  refine wpAny_bind (wpAny_pure ?_)
  simp only [Bool.not_true, Bool.false_eq_true, if_false]
  refine wpAny_bind (wpAny_seqItems ho hd ?_)
  refine wpAny_bind ?_
  show wpAny _ _ (forIn items _ _) _ _ s
  rw [← Array.forIn_toList]
  refine wpAny_forIn_list _ (fun rest r s' => r.1 = none ∧ s' = s ∧ ∀ v ∈ rest, carriedByValue v = true) _ ?_ ?_ _ _ ⟨rfl, rfl, hi.byValue⟩
  · rintro v rest r s' ⟨hr, rfl, hall⟩
    have e : ofAClassStatement 7 v = pure false := by
      have := hall v List.mem_cons_self
      cases v <;> first | rfl | (simp [carriedByValue] at this)
    rw [e]
    refine wpAny_bind (wpAny_pure ?_)
    simp only [Bool.false_eq_true, if_false]
    exact wpAny_pure ⟨rfl, rfl, fun u hu' => hall u (List.mem_cons_of_mem _ hu')⟩
  · rintro ⟨r1, r2⟩ s' ⟨hr, rfl, _⟩
    simp only at hr
    subst hr
    exact wpAny_pure h
theorem seen_no {k : List K} {a : Addr} {ys : List Value} {Q : Bool → Shared → Prop} (hk : IsTupleKey knd s.heap k a) (hy : ∀ y, y ∈ ys → ∃ b k', y = .ref b ∧ IsTupleKey knd s.heap k' b) (h : Q false s) : wpAny (model prog w) A (searchCouldBeSeen (.ref a) ys) Q E s := by
  unfold searchCouldBeSeen
  refine wpAny_bind ?_
  refine wpAny_forIn_list _ (fun rest r s' => r.1 = none ∧ s' = s ∧ ∀ y, y ∈ rest → ∃ b k', y = .ref b ∧ IsTupleKey knd s.heap k' b) _ ?_ ?_ _ _ ⟨rfl, rfl, hy⟩
  · rintro v rest r s' ⟨hr, rfl, hall⟩
    obtain ⟨b, k', rfl, hb⟩ := hall v List.mem_cons_self
    have rest' := fun u hu' => hall u (List.mem_cons_of_mem _ hu')
    by_cases c : a = b
    · subst c
      simp only [beq_self_eq_true, Bool.true_or, if_true]
      exact wpAny_pure ⟨rfl, rfl, rest'⟩
    · have c' : (a == b) = false := beq_eq_false_iff_ne.mpr c
      simp only [c', carriedByValue, Bool.false_and, Bool.or_self, Bool.false_eq_true, if_false]
      refine wpAny_bind (wpAny_eqIsQuiet_tuple hk ?_)
      simp only [Bool.not_true, Bool.false_eq_true, if_false]
      refine wpAny_bind (wpAny_eqIsQuiet_tuple hb ?_)
      simp only [Bool.not_true, Bool.false_eq_true, if_false]
      refine wpAny_bind (class_no hk ?_)
      simp only [Bool.false_eq_true, if_false]
      refine wpAny_bind (class_no hb ?_)
      simp only [Bool.false_eq_true, if_false]
      exact wpAny_pure ⟨rfl, rfl, rest'⟩
  · rintro ⟨r1, r2⟩ s' ⟨hr, rfl, _⟩
    simp only at hr
    subst hr
    exact wpAny_pure h
theorem odd_good {m : Nat} (h : goodM m) : (m % 2 == 0) = false := by rcases h with rfl | rfl | rfl <;> rfl
theorem search_at {S a : Addr} {o : Obj} {es : Array (Int × Value)} {ep : Nat} {t : SetTable} {k : List K} {hs : Int} (hu : A.units < cLine) (ho : s.heap.get? S = some o) (hd : o.data = .set es ep t) (ht : TabOk t es.size) (hk : IsTupleKey knd s.heap k a) (he : Others knd s.heap es k) :
    ∀ (n f : Nat) (st : Option SetTable.Probe) (Q : SetFound → Shared → Prop), n < f → n < 10 * SetTable.turns t.mask → (st.getD (t.probeStart hs)).dummy = none → t.slot (adv t n (st.getD (t.probeStart hs))).j = .empty →
    (∀ j, Q (.free j false) s) → wpAny (model prog w) A (setSearchFrom S (.ref a) hs true f st) Q E s := by
  intro n
  induction n using Nat.strongRecOn with
  | _ n ih =>
    intro f st Q hf hn hdm hem q
    obtain ⟨f, rfl⟩ : ∃ f', f = f' + 1 := ⟨f - 1, by omega⟩
    unfold setSearchFrom
    refine wpAny_bind (wpAny_setState_of ho hd ht.fits ?_)
    dsimp only
    have gw : t.gaveWay = false := odd_good ht.good
    rw [gw]
    simp only [Bool.false_eq_true, if_false]
    have tail : ∀ (j i : Nat) (next : SetTable.Probe) (m : Nat), m < n → next = adv t (m + 1) (st.getD (t.probeStart hs)) → t.slot j = .live i → wpAny (model prog w) A (setSearchFrom S (.ref a) hs true f (some next)) Q E s := fun j i next m hm en hs' => by
      refine ih (n - (m + 1)) (by omega) f (some next) Q (by omega) (by omega) ?_ ?_ q
      · show next.dummy = none
        rw [en]
        have : ∀ (c : Nat) (p : SetTable.Probe), p.dummy = none → (adv t c p).dummy = none := fun c => by
          induction c with
          | zero => exact fun p h => h
          | succ c ihc => exact fun p h => ihc _ (by rw [adv_dummy]; exact h)
        exact this _ _ hdm
      · show t.slot (adv t (n - (m + 1)) next).j = _
        rw [en, ← adv_add, show m + 1 + (n - (m + 1)) = n by omega]
        exact hem
    unfold SetTable.probe
    rcases probe_go ht (hs := hs) n (10 * SetTable.turns t.mask) (st.getD (t.probeStart hs)) hn hdm hem with ⟨j, e1, e2⟩ | ⟨m, j, i, hm, e1, e2⟩
    · rw [e1]
      exact wpAny_pure (q j)
    · rw [e1]
      dsimp only
      have hi := (slot_live ht e2).2
      have gi : es[i]? = some es[i] := Array.getElem?_eq_getElem hi
      obtain ⟨b, k', eb, hb, nb⟩ := he es[i] (by simp)
      have go := tail j i _ m hm rfl e2
      have ep2 : es[i] = (es[i].1, Value.ref b) := Prod.ext rfl eb
      have sm : t.sameMemory t.moves t.mask = some true := by unfold SetTable.sameMemory; simp
      have gi2 : es[i]? = some (es[i].1, Value.ref b) := gi.trans (congrArg some ep2)
      have stored : ∀ y, y ∈ List.map (fun x : Int × Value => x.2) (Array.filter (fun x => x.1 == hs) es).toList → ∃ b k', y = .ref b ∧ IsTupleKey knd s.heap k' b := fun y hy => by
        obtain ⟨e, h1, h2⟩ := List.mem_map.mp hy
        rw [Array.toList_filter] at h1
        obtain ⟨b, k', z1, z2, _⟩ := he e (List.mem_filter.mp h1).1
        exact ⟨b, k', by rw [← h2]; exact z1, z2⟩
      cases hl : t.led with
      | false =>
        simp only [Bool.not_false, if_true]
        refine wpAny_bind (seen_no hk stored ?_)
        simp only [Bool.false_eq_true, if_false]
        rw [gi2]
        dsimp only
        refine wpAny_bind (wpAny_holding (wpAny_eqBool_tuple hu hb hk ?_))
        rw [decide_eq_false nb]
        refine wpAny_bind (wpAny_setState_of ho hd ht.fits ?_)
        dsimp only
        rw [sm]
        simp only [Bool.and_false, Bool.false_eq_true, if_false, if_true, e2, gi2]
        refine wpAny_bind (wpAny_isSame_ref_self (wpAny_bind (wpAny_pure ?_)))
        simp only [if_true]
        exact go
      | true =>
        simp only [Bool.not_true, Bool.false_eq_true, if_false]
        rw [gi2]
        dsimp only
        refine wpAny_bind (wpAny_holding (wpAny_eqBool_tuple hu hb hk ?_))
        rw [decide_eq_false nb]
        refine wpAny_bind (wpAny_setState_of ho hd ht.fits ?_)
        dsimp only
        rw [sm]
        simp only [Bool.and_false, Bool.false_eq_true, if_false, if_true, e2, gi2]
        refine wpAny_bind (wpAny_isSame_ref_self (wpAny_bind (wpAny_pure ?_)))
        simp only [if_true]
        exact go
end
end L2
set_option Elab.async false
set_option linter.all false
set_option maxRecDepth 100000
set_option maxHeartbeats 4000000
namespace L2
open PySem PySem.Spec PyProof.Rows
section
variable {prog : Program} {w : World} {A : Around} {E : Value → Shared → Prop} {s : Shared} {K : Type} [DecidableEq K] {knd : KeyKind prog w K}
theorem hash_val (n : Nat) {v : Value} (h : carriedByValue v = true) : ∃ b, hashByValue n v = pure b := by
  cases v <;> first | (simp [carriedByValue] at h; done) | exact ⟨_, by unfold hashByValue; rfl⟩ | exact ⟨_, rfl⟩
theorem hash_by {ks : List K} {a : Addr} {Q : Bool → Shared → Prop} (hk : IsTupleKey knd s.heap ks a) (h : ∀ b, Q b s) : wpAny (model prog w) A (hashByValue 8 (.ref a)) Q E s := by
  have hT := hk.typeIs
  obtain ⟨o, items, n, ho, _, hd, hi⟩ := hk
  unfold hashByValue
  refine wpAny_bind (wpAny_specialOf hT F.slot_tuple_hash.lookup ?_)
  dsimp only
  refine wpAny_bind (wpAny_seqItems ho hd ?_)
  refine wpAny_bind ?_
  show wpAny _ _ (forIn items _ _) _ _ s
  rw [← Array.forIn_toList]
  refine wpAny_forIn_list _ (fun rest r s' => s' = s ∧ ∀ v ∈ rest, carriedByValue v = true) _ ?_ ?_ _ _ ⟨rfl, hi.byValue⟩
  · rintro v rest r s' ⟨rfl, hall⟩
    obtain ⟨b, e⟩ := hash_val 7 (hall v List.mem_cons_self)
    rw [e]
    refine wpAny_bind (wpAny_pure ?_)
    cases b with
    | false => exact wpAny_pure (wpAny_pure (h false))
    | true => exact wpAny_pure ⟨rfl, fun u hu' => hall u (List.mem_cons_of_mem _ hu')⟩
  · rintro ⟨r1, r2⟩ s' ⟨rfl, _⟩
    cases r1 with
    | none => exact wpAny_pure (h _)
    | some b => exact wpAny_pure (h _)
def SetT (knd : KeyKind prog w K) (h : Heap) (S : Addr) (keys : List (List K)) (n : Nat) : Prop :=
  ∃ o es ep t, h.get? S = some o ∧ o.ExactSet ∧ o.data = .set es ep t ∧ TabOk t es.size ∧ es.size * 5 < t.mask * 3 ∧ es.size = n ∧ ∀ e, e ∈ es.toList → ∃ b k', e.2 = .ref b ∧ IsTupleKey knd h k' b ∧ k' ∈ keys
theorem key_but {h h' : Heap} {S a : Addr} {o : Obj} {es : Array (Int × Value)} {ep : Nat} {t : SetTable} {ks : List K} (ho : h.get? S = some o) (hd : o.data = .set es ep t) (hs : Heap.SameBut S h h') (x : IsTupleKey knd h ks a) : IsTupleKey knd h' ks a := by
  obtain ⟨o', items, n, ho', hc, hd', hi⟩ := x
  have hne : a ≠ S := by
    rintro rfl
    obtain rfl : o' = o := Option.some.inj (ho'.symm.trans ho)
    rw [hd] at hd'
    cases hd'
  exact ⟨o', items, n, (hs.2 a hne).trans ho', hc, hd', hi⟩
theorem relay_at {S : Addr} {o : Obj} {es : Array (Int × Value)} {ep : Nat} {t : SetTable} {wanted : Nat} {Q : Unit → Shared → Prop} (ho : s.heap.get? S = some o) (hx : o.ExactSet) (hd : o.data = .set es ep t) (ht : TabOk t es.size) (hg : goodM (SetTable.sizeAbove wanted - 1)) (hr : es.size * 5 < (SetTable.sizeAbove wanted - 1) * 3) (hw : SetTable.sizeAbove wanted ≤ 128)
    (q : ∀ h' o' es' t', Heap.SameBut S s.heap h' → h'.get? S = some o' → o'.ExactSet → o'.data = .set es' (ep + 1) t' → TabOk t' es'.size → es'.size * 5 < t'.mask * 3 → es'.size = es.size → (∀ e, e ∈ es'.toList → e ∈ es.toList) → Q () { s with heap := h' }) :
    wpAny (model prog w) A (setRelay S wanted) Q E s := by
  unfold setRelay
  refine wpAny_bind (wpAny_setState_of ho hd ht.fits ?_)
  dsimp only
  rw [if_neg (by have : sizeLine ≥ 1000 := by decide
                 omega)]
  obtain ⟨t', order, e1, e2, e3, e4, e5, e6⟩ := laid_ok hg (hs := es.map (·.1)) (by rw [Array.size_map]; omega) t.finger (t.movedTo (SetTable.sizeAbove wanted - 1)) t.led t.plain
  have e1' : t.relaid (es.map (·.1)) wanted = some (t', order) := e1
  rw [e1']
  have sz : (order.filterMap (es[·]?)).size = es.size := by
    rw [← Array.length_toList, Array.toList_filterMap, List.length_filterMap_eq_countP, List.countP_eq_length.mpr, Array.length_toList, e5, Array.size_map]
    intro v hv
    have := e6 v hv
    rw [Array.size_map] at this
    rw [Array.getElem?_eq_getElem this]
    rfl
  refine wpAny_bind (wpAny_of_eq (?_ : _ = pure (order.filterMap (es[·]?), t')) ?_)
  · change (if _ then _ else _) = _
    rw [if_neg (by rw [sz]; simp)]
  · have hz : (order.filterMap (es[·]?)).size ≤ sizeLine := by
      rw [sz]
      have : sizeLine ≥ 1000 := by decide
      omega
    refine wpAny_storeSet_of ho hd ?_ hz
    have e8 : TabOk t' (order.filterMap (es[·]?)).size := by
      rw [sz]
      rw [Array.size_map] at e2
      exact e2
    refine q _ _ (order.filterMap (es[·]?)) t' (Heap.SameBut.update ..) (Heap.get?_update_self _ ho ?_) ?_ ?_ e8 ?_ sz fun e he => ?_
    · rw [putSet_of _ _ hd]; rfl
    · rw [putSet_of _ _ hd]; exact hx
    · rw [putSet_of _ _ hd]
    · rw [sz, e3]; exact hr
    · rw [Array.toList_filterMap, List.mem_filterMap] at he
      obtain ⟨v, _, hv⟩ := he
      rw [← Array.getElem?_toList] at hv
      exact List.mem_of_getElem? hv
end
end L2
set_option Elab.async false
set_option linter.all false
set_option maxRecDepth 100000
set_option maxHeartbeats 4000000
namespace L2
open PySem PySem.Spec PyProof.Rows
section
variable {prog : Program} {w : World} {A : Around} {E : Value → Shared → Prop} {s : Shared} {K : Type} [DecidableEq K] {knd : KeyKind prog w K}
theorem grow_ok {m n : Nat} (g : goodM m) (hn : n < 30) (h1 : n * 5 < m * 3) (h2 : (n + 1) * 5 ≥ m * 3) : goodM (SetTable.sizeAbove (SetTable.grown (n + 1)) - 1) ∧ (n + 1) * 5 < (SetTable.sizeAbove (SetTable.grown (n + 1)) - 1) * 3 ∧ SetTable.sizeAbove (SetTable.grown (n + 1)) ≤ 128 := by
  rcases g with rfl | rfl | rfl
  · have e : n = 4 := by omega
    subst e
    have z : SetTable.sizeAbove (SetTable.grown (4 + 1)) = 32 := by decide
    rw [z]
    exact ⟨.inr (.inl rfl), by decide, by decide⟩
  · have e : n = 18 := by omega
    subst e
    have z : SetTable.sizeAbove (SetTable.grown (18 + 1)) = 128 := by decide
    rw [z]
    exact ⟨.inr (.inr rfl), by decide, by decide⟩
  · omega
theorem add_at {S a : Addr} {k : List K} {keys : List (List K)} {n : Nat} {hs : Int} {Q : Bool → Shared → Prop} (hu : A.units < cLine) (hS : SetT knd s.heap S keys n) (hn : n < 30) (hk : IsTupleKey knd s.heap k a) (nk : k ∉ keys)
    (q : ∀ h', Heap.SameBut S s.heap h' → SetT knd h' S (k :: keys) (n + 1) → Q true { s with heap := h' }) : wpAny (model prog w) A (setAddHashed S (.ref a) hs) Q E s := by
  obtain ⟨o, es, ep, t, ho, hx, hd, ht, hf, rfl, he⟩ := hS
  have oth : Others knd s.heap es k := fun e h => by
    obtain ⟨b, k', e1, e2, e3⟩ := he e h
    exact ⟨b, k', e1, e2, fun z => nk (by rw [← z]; exact e3)⟩
  unfold setAddHashed
  refine wpAny_holding ?_
  unfold setAddHashedIn
  refine wpAny_bind (wpAny_setState_of ho hd ht.fits ?_)
  dsimp only
  have bs : byScan (.ref a) es = false := rfl
  rw [bs]
  simp only [Bool.false_eq_true, if_false]
  obtain ⟨m, hm, em⟩ := adv_empty ht hs
  have t100 : 10 * SetTable.turns t.mask < 100000 := by
    rcases ht.good with z | z | z <;> rw [z] <;> decide
  unfold setSearch
  refine wpAny_bind (search_at (hs := hs) hu ho hd ht hk oth m 100000 none _ (by omega) hm rfl em fun j => ?_)
  dsimp only
  refine wpAny_bind (wpAny_setState_of ho hd ht.fits ?_)
  dsimp only
  have room : es.size + 1 ≤ t.mask := by
    rcases ht.good with z | z | z <;> rw [z] at hf ⊢ <;> omega
  have pk := put_ok (j := j) ht room
  have sz : (SetTable.insertAt es (t.put j).2 (hs, Value.ref a)).size = es.size + 1 := ins_size _ _ _
  have core : ∀ tt : SetTable, TabOk tt (es.size + 1) → tt.mask = t.mask → wpAny (model prog w) A (do
      storeSet S (SetTable.insertAt es (t.put j).2 (hs, Value.ref a)) tt
      if (!false && tt.tooFull) = true then do
          setRelay S (SetTable.grown (es.size + 1))
          pure true
        else pure true) Q E s := fun tt htt em => by
    have hz : (SetTable.insertAt es (t.put j).2 (hs, Value.ref a)).size ≤ sizeLine := by
      rw [sz]
      have : sizeLine ≥ 1000 := by decide
      omega
    refine wpAny_bind (wpAny_storeSet_of ho hd ?_ hz)
    have hg : (s.heap.update S (Obj.putSet (SetTable.insertAt es (t.put j).2 (hs, Value.ref a)) tt)).get? S = some { o with data := .set (SetTable.insertAt es (t.put j).2 (hs, Value.ref a)) (ep + 1) tt } := by
      have := Heap.get?_update_self (Obj.putSet (SetTable.insertAt es (t.put j).2 (hs, Value.ref a)) tt) ho (by rw [putSet_of _ _ hd]; rfl)
      rw [putSet_of _ _ hd] at this
      exact this
    have sb : Heap.SameBut S s.heap (s.heap.update S (Obj.putSet (SetTable.insertAt es (t.put j).2 (hs, Value.ref a)) tt)) := Heap.SameBut.update ..
    have items : ∀ e, e ∈ (SetTable.insertAt es (t.put j).2 (hs, Value.ref a)).toList → ∃ b k', e.2 = .ref b ∧ IsTupleKey knd s.heap k' b ∧ k' ∈ k :: keys := fun e h => by
      rcases ins_mem h with h | h
      · exact ⟨a, k, by rw [h], hk, List.mem_cons_self ..⟩
      · obtain ⟨b, k', e1, e2, e3⟩ := he e h
        exact ⟨b, k', e1, e2, List.mem_cons_of_mem _ e3⟩
    have full : tt.tooFull = decide ((es.size + 1) * 5 ≥ t.mask * 3) := by
      unfold SetTable.tooFull SetTable.fill
      rw [htt.size, htt.nod, em]
      rfl
    rw [full]
    by_cases c : (es.size + 1) * 5 ≥ t.mask * 3
    · rw [decide_eq_true c]
      simp only [Bool.not_false, Bool.and_self, if_true]
      obtain ⟨g1, g2, g3⟩ := grow_ok ht.good hn hf c
      refine wpAny_bind (relay_at (s := { s with heap := _ }) hg hx rfl (by rw [sz]; exact htt) g1 (by rw [sz]; exact g2) g3 fun h' o' es' t' sb' ho' hx' hd' ht' hf' sz' mem => wpAny_pure (q h' ?_ ⟨o', es', _, t', ho', hx', hd', ht', hf', by rw [sz', sz], fun e h => ?_⟩))
      · exact sb.trans sb'
      · obtain ⟨b, k', e1, e2, e3⟩ := items e (mem e h)
        exact ⟨b, k', e1, key_but ho hd (sb.trans sb') e2, e3⟩
    · rw [decide_eq_false c]
      simp only [Bool.and_false, Bool.false_eq_true, if_false]
      refine wpAny_pure (q _ sb ⟨_, _, _, tt, hg, hx, rfl, by rw [sz]; exact htt, by rw [sz, em]; omega, sz, fun e h => ?_⟩)
      obtain ⟨b, k', e1, e2, e3⟩ := items e h
      exact ⟨b, k', e1, key_but ho hd sb e2, e3⟩
  have off : TabOk { (t.put j).1 with plain := false } (es.size + 1) := ⟨pk.good, pk.nod, pk.size, pk.room⟩
  split
  · refine wpAny_bind (hash_by hk fun b => ?_)
    cases b with
    | true => exact core _ pk rfl
    | false => exact core _ off rfl
  · exact wpAny_bind (wpAny_pure (core _ pk rfl))
end
end L2
set_option Elab.async false
set_option linter.all false
set_option maxRecDepth 100000
set_option maxHeartbeats 4000000
namespace L2
open PySem PySem.Spec PyProof.Rows
section
variable {prog : Program} {w : World} {A : Around} {R : Result → Shared → Prop} {I : Addr} {fp wr : List Addr} {G : Array GenState → Array GenState → Prop} {n : Nat} {P : Nat → Value → Prop} {St : Nat → Shared → Prop} {K : Type} [DecidableEq K] {knd : KeyKind prog w K}
theorem key_kept {h h' : Heap} {ks : List K} {b : Addr} (x : IsTupleKey knd h ks b) (k : ∀ o, h.get? b = some o → h'.get? b = some o) : IsTupleKey knd h' ks b := by
  obtain ⟨o', items, n, ho', hc, hd', hi⟩ := x
  exact ⟨o', items, n, k _ ho', hc, hd', hi⟩
theorem setT_kept {h h' : Heap} {S : Addr} {keys : List (List K)} {m : Nat} (hS : SetT knd h S keys m) (k : ∀ b o, h.get? b = some o → (b = S ∨ ∃ ks, IsTupleKey knd h ks b) → h'.get? b = some o) : SetT knd h' S keys m := by
  obtain ⟨o, es, ep, t, ho, hx, hd, ht, hf, hn, he⟩ := hS
  refine ⟨o, es, ep, t, k _ _ ho (.inl rfl), hx, hd, ht, hf, hn, fun e h => ?_⟩
  obtain ⟨b, k', e1, e2, e3⟩ := he e h
  exact ⟨b, k', e1, key_kept e2 fun o ho => k _ _ ho (.inr ⟨_, e2⟩), e3⟩
def keysTo (ks : Nat → List K) : Nat → List (List K)
  | 0 => []
  | i + 1 => ks i :: keysTo ks i
theorem keysTo_mem {ks : Nat → List K} {k : List K} : ∀ {i : Nat}, k ∈ keysTo ks i → ∃ j, j < i ∧ k = ks j
  | 0, h => by cases h
  | i + 1, h => by
    rcases List.mem_cons.mp h with h | h
    · exact ⟨i, by omega, h⟩
    · obtain ⟨j, hj, e⟩ := keysTo_mem h
      exact ⟨j, by omega, e⟩
theorem setT_loop (W : WalksS prog w A.in1 I fp wr G n P St) (S : Addr) (hSf : S ∉ fp) (ks : Nat → List K) (hu : A.units + 1 < cLine) (hn : n ≤ 30) (inj : ∀ i j, i < n → j < n → ks i = ks j → i = j) (nowr : ∀ (i : Nat) (s : Shared) (k : List K) (b : Addr), St i s → b ∈ wr → ¬ IsTupleKey knd s.heap k b) :
    ∀ (k i : Nat) (s : Shared), n - i = k → i ≤ n → St i s → SetT knd s.heap S (keysTo ks i) i → (∀ j v, P j v → ∃ b, v = .ref b ∧ IsTupleKey knd s.heap (ks j) b) →
      (∀ s', Moved (S :: wr) G s s' → SetT knd s'.heap S (keysTo ks n) n → R (.ok (.ret .none)) s') →
      codeAny (model prog w) A (.builtin "set.update.loop" ⟨[.ref S, .ref I], []⟩) R s := by
  have hSw : S ∉ wr := fun h => hSf (W.sub _ h)
  have hsub : ∀ b ∈ wr, b ∈ S :: wr := fun b hb => List.mem_cons_of_mem _ hb
  intro k
  induction k with
  | zero =>
    intro i s hk hi hst hS hv hR
    have hin : i = n := by omega
    subst hin
    refine codeAny_builtin F.entry_set_update_loop ?_
    rw [Around.under_plainId F.plain_set_update_loop _]
    show wpAny _ A.in1 (pyNext (.ref I) >>= _) _ _ s
    refine wpAny_bind (W.done s _ _ hst fun s' hm => ?_)
    show wpAny _ A.in1 (ret Value.none) _ _ s'
    refine wpAny_pure (hR s' (hm.mono hsub) (setT_kept hS fun b o ho hb => hm.heap b o (fun z => ?_) ho))
    rcases hb with rfl | ⟨k', hb⟩
    · exact hSw z
    · exact nowr _ _ _ _ hst z hb
  | succ k ih =>
    intro i s hk hi hst hS hv hR
    have hlt : i < n := by omega
    refine codeAny_builtin F.entry_set_update_loop ?_
    rw [Around.under_plainId F.plain_set_update_loop _]
    show wpAny _ A.in1 (pyNext (.ref I) >>= _) _ _ s
    refine wpAny_bind (W.item i s _ _ hlt hst fun v s' hP hst' hm => ?_)
    have tk : ∀ {ks' : List K} {b : Addr}, IsTupleKey knd s.heap ks' b → IsTupleKey knd s'.heap ks' b := fun {ks' b} x => key_kept x fun o ho => hm.heap b o (fun z => nowr _ _ _ _ hst z x) ho
    obtain ⟨b, rfl, hb⟩ := hv i v hP
    have hb' := tk hb
    have hS' : SetT knd s'.heap S (keysTo ks i) i := setT_kept hS fun b o ho hb => hm.heap b o (fun z => by
      rcases hb with rfl | ⟨k', hb⟩
      · exact hSw z
      · exact nowr _ _ _ _ hst z hb) ho
    show wpAny _ A.in1 (holding [Value.ref b] (setAdd S (.ref b)) >>= _) _ _ s'
    refine wpAny_bind (wpAny_holding ?_)
    unfold setAdd
    refine wpAny_holding ?_
    refine wpAny_bind ((tupleKind knd).pyHash (k := ks i) hu hb' ?_)
    refine add_at (s := { s' with toks := s'.toks + (tupleKind knd).draws (ks i) }) hu hS' (by omega) hb' (fun z => ?_) fun h' hsb hS2 => ?_
    · obtain ⟨j, hj, e⟩ := keysTo_mem z
      have := inj i j hlt (by omega) e
      omega
    · obtain ⟨oS, esS, epS, tS, hoS, _, hdS, _⟩ := id hS'
      refine wpAny_pure ⟨plainId_quiet F.plain_set_update_loop _, ih (i + 1) _ (by omega) hlt (W.frame _ s' _ _ hst' (Nat.le_add_right _ _) fun b hb o e => ?_) hS2 (fun j v hj => ?_) fun s'' hm'' hS'' => ?_⟩
      · rw [hsb.2 b (fun h : b = S => hSf (by rw [← h]; exact hb))]; exact e
      · obtain ⟨b', e1, e2⟩ := hv j v hj
        exact ⟨b', e1, key_but hoS hdS hsb (tk e2)⟩
      · refine hR s'' (Moved.trans W.gtrans ((hm.mono hsub).then_heap (Nat.le_add_right _ _) fun b o hb e => ?_) hm'') hS''
        rw [hsb.2 b (fun h : b = S => hb (by rw [h]; exact List.mem_cons_self))]; exact e
end
end L2
set_option Elab.async false
set_option linter.all false
set_option maxRecDepth 100000
set_option maxHeartbeats 4000000
namespace L2
open PySem PySem.Spec PyProof.Rows
section
variable {prog : Program} {w : World} {A : Around} {E : Value → Shared → Prop} {s : Shared} {K : Type} [DecidableEq K] {knd : KeyKind prog w K}
abbrev set0 (led : Bool) : Obj := { cls := .type "set", dict := none, data := .set #[] 0 (.fresh 0 0 led) }
theorem setT_new {h : Heap} {S : Addr} {led : Bool} (e : h.get? S = some (set0 led)) : SetT knd h S [] 0 :=
  ⟨_, #[], 0, .fresh 0 0 led, e, ⟨rfl, rfl, rfl⟩, rfl, ⟨.inl rfl, rfl, rfl, Nat.zero_le _⟩, (by show 0 * 5 < 7 * 3; decide), rfl, fun e h => by cases h⟩
theorem iter_no {h : Heap} {b : Addr} {k : List K} {o : Obj} (e : h.get? b = some o) (hc : o.cls ≠ .type "tuple") : ¬ IsTupleKey knd h k b := fun ⟨o', _, _, ho', hc', _⟩ => by
  rw [e] at ho'
  cases ho'
  exact hc hc'
theorem init_T {l : Addr} {items : Array Value} {led : Bool} {ks : Nat → List K} {h0 : Heap} {P : PySem.Fin → Shared → Prop} (hu : A.units + 8 < cLine) (hh : A.handled = none) (hl : h0.IsList l items) (hv : ∀ j v, items[j]? = some v → ∃ b, v = .ref b ∧ IsTupleKey knd h0 (ks j) b) (hn : items.size ≤ 30) (inj : ∀ i j, i < items.size → j < items.size → ks i = ks j → i = j)
    (h : ∀ (h' : Heap) (tk : Nat), SetT knd h' h0.objs.size (keysTo ks items.size) items.size → (∀ b o, b < h0.objs.size → h0.get? b = some o → h'.get? b = some o) → P (.done (.ret .none)) { s with heap := h', toks := tk }) :
    wpAny (model prog w) A (Builtin.«set.__init__» ⟨[.ref h0.objs.size, .ref l], []⟩) P E { s with heap := h0.push (set0 led) } := by
  obtain ⟨ol, hol, hcl, nl, hdl⟩ := hl
  obtain ⟨ocls, odict, odata, oslots⟩ := ol
  simp only at hcl hdl
  subst hcl; subst hdl
  have hS : (h0.push (set0 led)).get? h0.objs.size = some (set0 led) := Heap.get?_push_size _ rfl
  have hT : Shared.TypeIs { s with heap := h0.push (set0 led) } (.ref h0.objs.size) "set" := ⟨_, hS, rfl⟩
  have hol' := Heap.get?_push_of_some (set0 led) hol
  have hsls := PySem.F.sub_list_set
  have hslf := PySem.F.sub_list_frozenset
  have hne : (Value.type "list" == Value.type "dict") = false := by decide
  have hl1 : (h0.push (set0 led)).IsList l items := ⟨_, hol', rfl, nl, rfl⟩
  unfold Builtin.«set.__init__» noKeywords Builtin.Frozenset.updateFrom
  generalize hPI : pyIter = PI
  wp_walk
  subst hPI
  refine wpAny_pyIter_list hl1 (wpAny_bind (wpAny_runValue ?_))
  have hlS : l < h0.objs.size := Heap.lt_size hol
  have sz1 : (h0.push (set0 led)).objs.size = h0.objs.size + 1 := Heap.size_push ..
  have neI : l ≠ (h0.push (set0 led)).objs.size := by rw [sz1]; exact Nat.ne_of_lt (Nat.lt_succ_of_lt hlS)
  have SnI : h0.objs.size ∉ [(h0.push (set0 led)).objs.size, l] := fun z => by
    rw [sz1] at z
    rcases List.mem_cons.mp z with z | z
    · exact absurd z (Nat.ne_of_lt (Nat.lt_succ_self _))
    · exact absurd (List.mem_singleton.mp z) (Nat.ne_of_gt hlS)
  have W := (Walks.list (prog := prog) (w := w) (A := A.in1) (show A.in1.handled = none from hh) _ l neI items).toS
  refine setT_loop (knd := knd) (n := items.size) W h0.objs.size SnI ks (by omega) hn inj (fun i s' k b st hb x => ?_) (items.size - 0) 0 _ (by omega) (Nat.zero_le _) ⟨⟨_, Heap.get?_push_size _ rfl, rfl, rfl⟩, hl1.push _⟩ (setT_new (Heap.get?_push_of_some _ hS)) (fun j v hj => ?_) fun s' hm hS' => ?_
  · have eb := List.mem_singleton.mp hb
    subst eb
    obtain ⟨u, e, hc, _⟩ := st.1
    exact iter_no (knd := knd) e (by rw [hc]; decide) x
  · obtain ⟨b, e1, e2⟩ := hv j v hj
    exact ⟨b, e1, key_kept e2 fun o ho => Heap.get?_push_of_some _ (Heap.get?_push_of_some _ ho)⟩
  · obtain ⟨h', g', d', tk', os'⟩ := s'
    have eg : g' = s.gens := hm.gens
    have ed : d' = s.drawn := hm.drawn
    have eo : os' = s.os := hm.os
    subst eg; subst ed; subst eo
    refine wpAny_pure (wpAny_pure (h h' tk' hS' fun b o hb e => ?_))
    refine hm.heap b o (fun z => ?_) (Heap.get?_push_of_some _ (Heap.get?_push_of_some _ e))
    rcases List.mem_cons.mp z with z | z
    · exact absurd z (Nat.ne_of_lt hb)
    · have z := List.mem_singleton.mp z
      have z : b = (h0.push (set0 led)).objs.size := z
      rw [sz1] at z
      exact absurd z (Nat.ne_of_lt (Nat.lt_succ_of_lt hb))
end
end L2
set_option Elab.async false
set_option linter.all false
set_option maxRecDepth 100000
set_option maxHeartbeats 4000000
namespace L2
open PySem PySem.Spec PyProof.Rows
section
variable {prog : Program} {w : World} {A : Around} {E : Value → Shared → Prop} {s : Shared} {K : Type} [DecidableEq K] {knd : KeyKind prog w K}
theorem call_setT {l : Addr} {items : Array Value} {ks : Nat → List K} {Q : Value → Shared → Prop} (hu : A.units + 20 < cLine) (hh : A.handled = none) (hl : s.heap.IsList l items) (hv : ∀ j v, items[j]? = some v → ∃ b, v = .ref b ∧ IsTupleKey knd s.heap (ks j) b) (hn : items.size ≤ 30) (inj : ∀ i j, i < items.size → j < items.size → ks i = ks j → i = j)
    (h : ∀ (h' : Heap) (tk : Nat), SetT knd h' s.heap.objs.size (keysTo ks items.size) items.size → (∀ b o, b < s.heap.objs.size → s.heap.get? b = some o → h'.get? b = some o) → Q (.ref s.heap.objs.size) { s with heap := h', toks := tk }) :
    wpAny (model prog w) A (call (.type "set") [.ref l]) Q E s := by
  obtain ⟨c, tl, hmro⟩ := PySem.F.called_set.mro
  have hmade := PySem.F.called_set.made
  have hsub := PySem.F.called_set.sub
  refine wpAny_call (codeAny_of_tree ?_)
  show wpAny _ _ (callAny (.type "set") _) _ _ _
  refine wpAny_pure ⟨Code.quiet_builtin _ (by decide +kernel), codeAny_builtin PySem.F.entry_type_call ?_⟩
  rw [Around.under_plain (weight_type_call_type "set" [.ref l] []) rfl]
  have h1 := PySem.F.called_set.notType
  have h2 := PySem.F.called_set.canCreate
  have hct := PySem.F.typeCall_set_1 (.ref l)
  repeat (any_goals (first | assumption | wp_step))
  refine codeAny_mono (code_set_new_1 (.ref l) (E := E) (Q₁ := fun obj s₁ => ∃ led : Bool, obj = .ref s.heap.objs.size ∧ s₁ = { s with heap := s.heap.push (set0 led) }) fun led => ⟨led, rfl, rfl⟩) fun r s₁ hr => ?_
  cases r with
  | error e => exact hr
  | ok fl =>
    cases fl with
    | ret obj =>
      obtain ⟨led, rfl, rfl⟩ := hr
      have hS : (s.heap.push (set0 led)).get? s.heap.objs.size = some (set0 led) := Heap.get?_push_size _ rfl
      have hT : Shared.TypeIs { s with heap := s.heap.push (set0 led) } (.ref s.heap.objs.size) "set" := ⟨_, hS, rfl⟩
      have hli := PySem.F.called_set.init.lookup
      have hbi := PySem.F.called_set.init.bind (.ref s.heap.objs.size)
      repeat (any_goals (first | assumption | wp_step))
      refine codeAny_mono (codeAny_call_builtin (R := wants (fun r s₂ => r = .none ∧ ∃ h' tk, s₂ = { s with heap := h', toks := tk } ∧ SetT knd h' s.heap.objs.size (keysTo ks items.size) items.size ∧
          (∀ b o, b < s.heap.objs.size → s.heap.get? b = some o → h'.get? b = some o)) E) PySem.F.called_set.init.plain PySem.F.entry_set_init (check_set_init_1 hT ?_)) fun r₂ s₂ hr₂ => ?_
      · refine init_T (knd := knd) (ks := ks) (items := items) ?hu ?hh hl hv hn inj fun h' tk hS' hk => ?_
        case hu => simp at *; omega
        case hh => simp [hh]
        exact ⟨rfl, h', tk, rfl, hS', hk⟩
      · cases r₂ with
        | error e => exact hr₂
        | ok fl₂ =>
          cases fl₂ with
          | ret r =>
            obtain ⟨rfl, h', tk, rfl, hS', hk'⟩ := hr₂
            repeat (any_goals (first | assumption | wp_step))
            exact h _ _ hS' hk'
          | _ => exact hr₂.elim
    | _ => exact hr.elim
end
def setO (a : Addr) (n : Nat) : HO := .ext fun h => ∃ o es ep t, h.get? a = some o ∧ o.ExactSet ∧ o.data = .set es ep t ∧ t.fits es.size = true ∧ es.size = n
section
variable {X : Cx}
def rSetT : List V → Hp → VK → Prop := fun xs H Q => ∃ (p : Addr) (ys : List V) (kk : Nat → List Key), xs = [.ref p] ∧ H p = some (.lst ys) ∧ ys.length ≤ 30 ∧ (∀ j v, ys[j]? = some v → ∃ b, v = .ref b ∧ H b = some (.tup ((kk j).map kV))) ∧ (∀ i j, i < ys.length → j < ys.length → kk i = kk j → i = j) ∧ ∀ l, H l = none → Q (.ref l) (upd H l (setO l ys.length))
theorem call_setR (hu : X.A.units + 64 < cLine) (hc : X.calm = true) : CallR X (.type "set") rSetT := by
  intro pins s σ H xs us Q I r h
  obtain ⟨p, ys, kk, rfl, hp, hn, hk, inj, q⟩ := h
  obtain ⟨u, rfl, rx⟩ := vals1 r
  cases rx
  obtain ⟨its, r', pl, hz⟩ := I.list (.inl (.of hp))
  have hlen := r'.length
  have hsz : its.toArray.size = ys.length := by rw [List.size_toArray, hlen]
  refine call_setT (knd := mixKind X.prog X.w) (ks := kk) (by omega) (I.ok.hd hc) pl.isList (fun j v e => ?_) (by rw [hsz]; exact hn) (by rw [hsz]; exact inj) fun h' tk hS kp => ?_
  · have e : its[j]? = some v := by simpa using e
    have hj : j < ys.length := by rw [hlen]; exact (List.getElem?_eq_some_iff.mp e).1
    obtain ⟨b, eb, hb⟩ := hk j ys[j] (List.getElem?_eq_getElem hj)
    obtain ⟨u, eu, ru⟩ := r'.get (List.getElem?_eq_getElem hj)
    rw [e] at eu
    cases eu
    rw [eb] at ru
    cases ru
    exact ⟨b, rfl, key_of I.hok hb⟩
  · rw [hsz] at hS
    obtain ⟨o, es, ep, t, ho, hx, hd, ht, _, hes, _⟩ := hS
    refine ⟨.ref s.heap.objs.size, _, I.laid (t' := tk) (fun b u e => kp b u (Heap.lt_size e) e) (Nat.le_refl _) ?_, rfl, q _ (I.hok.fresh (Nat.le_refl _))⟩
    refine ⟨⟨o, es, ep, t, ho, hx, hd, ht.fits, hes⟩, ⟨o, ho⟩, ?_⟩
    rintro h1 h2 ⟨o, es, ep, t, ho, hx, hd, ht, hes⟩ k
    exact ⟨o, es, ep, t, k _ ho, hx, hd, ht, hes⟩
def rLenS : List V → Hp → VK → Prop := fun xs H Q => ∃ (p : Addr) (n : Nat), xs = [.ref p] ∧ H p = some (setO p n) ∧ n ≤ sizeLine ∧ Q (.int n) H
theorem call_lenS : CallR X (.builtin "len") rLenS := by
  intro pins s σ H xs us Q I r h
  obtain ⟨p, n, rfl, hp, hz, q⟩ := h
  obtain ⟨u, rfl, rx⟩ := vals1 r
  cases rx
  have hn := line63
  obtain ⟨⟨o, es, ep, t, ho, hx, hd, ht, hes⟩, _⟩ := I.hok p _ hp
  exact call_len_set ho hx hd ht (by omega) ⟨.int n, H, I.tok _, ⟨s.toks + 1, by rw [hes]⟩, q⟩
end
end L2
set_option Elab.async false
set_option linter.all false
set_option maxRecDepth 100000
set_option maxHeartbeats 4000000
namespace L2
open PySem PySem.Spec PyProof.Rows
section
variable {prog : Program} {w : World} {A : Around} {E : Value → Shared → Prop} {s : Shared} {R : Result → Shared → Prop}
theorem walks_keys (hh : A.handled = none) (I d : Addr) (hne : d ≠ I) {od : Obj} {es : Array DictEntry} {ep : Nat} (hdat : od.data = .dict es ep) :
    Walks prog w A I [I, d] [I] es.size (fun i v => ∃ e, es[i]? = some e ∧ v = e.key) (fun i h => h.IsKeyIter I d i es.size ep ∧ h.get? d = some od) where
  sub := fun b hb => by simp at hb; simp [hb]
  frame := fun _ _ _ st hk => ⟨st.1.at fun o e => hk I (by simp) o e, hk d (by simp) _ st.2⟩
  item := fun i s Q E hi st hQ => by
    refine kiter_item st.1 st.2 hdat hi fun h' hit' hs' => ?_
    exact hQ _ h' s.toks ⟨_, Array.getElem?_eq_getElem hi, rfl⟩ ⟨hit', hs'.extBut d od hne st.2⟩ fun b o hb e => hs'.extBut b o (fun h => hb (by simp [h])) e
  done := fun s Q E st hQ => kiter_end hh st.1 st.2 hdat (Nat.le_refl _) fun h' he' => hQ h' s.toks fun b o hb e => he' b o (fun h => hb (by simp [h])) e
  self := fun _ _ _ _ st hQ => wpAny_pyIter_keyiter st.1 hQ
theorem extend_dict (hh : A.handled = none) {d : Addr} {od : Obj} {es : Array DictEntry} {ep : Nat} (hd : (d == sysModules) = false) (ho : s.heap.get? d = some od) (hc : od.cls = .type "dict") (hdat : od.data = .dict es ep) (S : Addr) (res : Value) (c₀ : Nat) (hS : s.heap.get? S = some { cls := .type "list", data := .seq #[] c₀ })
    (hR : ∀ h' tk acc' c', (∀ b o, b ≠ S → s.heap.get? b = some o → h'.get? b = some o) → h'.get? S = some { cls := .type "list", dict := none, data := .seq acc' c', slots := #[] } →
      ItemsOf (fun i v => ∃ e, es[i]? = some e ∧ v = e.key) acc' es.size → R (.ok (.ret res)) { s with heap := h', toks := tk }) (hn : es.size ≤ sizeLine) :
    wpAny (model prog w) A.in1 (Builtin.List.listExtendWith (.ref S) (.ref d) res)
      (fun fin s' => match fin with | .done f => R (.ok f) s' | .again c' => c'.quiet = true ∧ codeAny (model prog w) A c' R s') (fun e s' => R (.error e) s') s := by
  have hSd : S ≠ d := fun e => by rw [e, ho] at hS; cases hS; cases hdat
  have hSI : S ≠ s.heap.objs.size := Nat.ne_of_lt (Heap.lt_size hS)
  have hdI : d ≠ s.heap.objs.size := Nat.ne_of_lt (Heap.lt_size ho)
  have hSf : S ∉ [s.heap.objs.size, d] := fun hm => (List.mem_cons.mp hm).elim hSI fun z => hSd (List.mem_singleton.mp z)
  have ty : s.TypeIs (.ref d) "dict" := ⟨od, ho, hc⟩
  unfold Builtin.List.listExtendWith
  refine wpAny_bind (wpAny_typeOf ty ?_)
  have h1 : Builtin.List.listSameRef (.ref S) (.ref d) = false := by simp [Builtin.List.listSameRef, hSd]
  have h2 : (Value.type "dict" == Value.type "list") = false := by decide
  have h3 : (Value.type "dict" == Value.type "tuple") = false := by decide
  simp only [h1, h2, h3, Bool.or_false, Bool.false_eq_true, if_false]
  refine wpAny_bind (kiter_new hd ho hc hdat ?_)
  generalize hit : s.heap.push { cls := .type "dict_keyiterator", data := .fields #[.ref d, .int 0 0, .int es.size 0, .int ep 0] } = h1
  have k1 : ∀ b o, s.heap.get? b = some o → h1.get? b = some o := fun b o e => by rw [← hit]; exact Heap.get?_push_of_some _ e
  have st1 : h1.IsKeyIter s.heap.objs.size d 0 es.size ep := by rw [← hit]; exact ⟨_, Heap.get?_push_size _ rfl, rfl, rfl⟩
  have ty1 : Shared.TypeIs { s with heap := h1 } (.ref d) "dict" := ⟨od, k1 _ _ ho, hc⟩
  refine wpAny_bind (wpAny_holding ?_)
  unfold Builtin.List.listLengthHint
  refine wpAny_bind (wpAny_specialOf ty1 PySem.F.slot_dict_len.lookup ?_)
  wp_delta
  refine wpAny_bind (wpAny_isInstance ty1 (b := true) (by rw [isSubtype_type]; kernel_rfl) ?_)
  show wpAny _ _ (typeOf (Value.ref d) >>= _) _ _ _
  refine wpAny_bind (wpAny_typeOf ty1 ?_)
  refine wpAny_pure ?_
  rw [if_pos (by decide)]
  refine wpAny_bind (wpAny_rule ?_)
  refine wpAny_bind ?_
  show wpAny _ _ (updateSeq S (·.push .none) >>= fun _ => updateSeq S (·.pop)) _ _ _
  have hS₁ := k1 _ _ hS
  refine wpAny_bind (wpAny_updateSeq hS₁ rfl ?_)
  have hS₂ := Heap.get?_update_self (Obj.mapSeq (·.push Value.none)) hS₁ rfl
  refine wpAny_updateSeq (hz := by seq_fits) hS₂ rfl ?_
  have hS₃ := Heap.get?_update_self (Obj.mapSeq (·.pop)) hS₂ rfl
  have oth : ∀ b o, b ≠ S → h1.get? b = some o → ((h1.update S (Obj.mapSeq (·.push Value.none))).update S (Obj.mapSeq (·.pop))).get? b = some o :=
    fun b o hb e => (Heap.get?_update_other _ _ (Ne.symm hb)).trans ((Heap.get?_update_other _ _ (Ne.symm hb)).trans e)
  refine wpAny_pure ⟨plainId_quiet F.plain_extend_loop _, codeAny_extend_loopS (walks_keys (A := A.in1) hh s.heap.objs.size d hdI hdat).toS hn _ hSf _ es.size 0 _ _ _ rfl (Nat.zero_le _) ⟨st1.at fun o e => oth _ o (Ne.symm hSI) e, oth _ _ (Ne.symm hSd) (k1 _ _ ho)⟩ hS₃ (ItemsOf.nil _) fun s' acc' c' hm hS' hacc => ?_⟩
  rw [Moved.eq_with hm]
  refine hR s'.heap s'.toks acc' c' (fun b ob hb e => hm.heap b ob (fun hmem => ?_) (oth b ob hb (k1 _ _ e))) hS' hacc
  rcases List.mem_cons.mp hmem with e' | hmem
  · exact hb e'
  · exact absurd (Heap.lt_size e) (by rw [List.mem_singleton.mp hmem]; exact Nat.lt_irrefl _)
theorem list_init_dict (hh : A.handled = none) {d : Addr} {od : Obj} {es : Array DictEntry} {ep : Nat} (hd : (d == sysModules) = false) (ho : s.heap.get? d = some od) (hc : od.cls = .type "dict") (hdat : od.data = .dict es ep) (S : Addr) (hS : s.heap.get? S = some { cls := .type "list", data := .seq #[] })
    (hR : ∀ h' tk acc' c', (∀ b o, b ≠ S → s.heap.get? b = some o → h'.get? b = some o) → h'.get? S = some { cls := .type "list", dict := none, data := .seq acc' c', slots := #[] } →
      ItemsOf (fun i v => ∃ e, es[i]? = some e ∧ v = e.key) acc' es.size → R (.ok (.ret .none)) { s with heap := h', toks := tk }) (hn : es.size ≤ sizeLine) :
    wpAny (model prog w) A.in1 (Builtin.«list.__init__» ⟨[.ref S, .ref d], []⟩)
      (fun fin s' => match fin with | .done f => R (.ok f) s' | .again c' => c'.quiet = true ∧ codeAny (model prog w) A c' R s') (fun e s' => R (.error e) s') s := by
  have hSd : S ≠ d := fun e => by rw [e, ho] at hS; cases hS; cases hdat
  show wpAny _ _ (do let old ← Builtin.List.listItems (.ref S); Builtin.List.listUpdate (.ref S) (fun _ => #[]); letGo old.toList.reverse; Builtin.List.listExtendWith (.ref S) (.ref d) .none) _ _ s
  refine wpAny_bind ?_
  unfold Builtin.List.listItems
  refine wpAny_bind (wpAny_seqItems hS rfl (wpAny_pure ?_))
  show wpAny _ _ (updateSeq S (fun _ => #[]) >>= fun _ => letGo (#[] : Array Value).toList.reverse >>= fun _ => Builtin.List.listExtendWith (.ref S) (.ref d) .none) _ _ s
  refine wpAny_bind (wpAny_updateSeq hS rfl ?_)
  have hS₂ := Heap.get?_update_self (Obj.mapSeq (fun _ => (#[] : Array Value))) hS rfl
  have oth : ∀ b o, b ≠ S → s.heap.get? b = some o → (s.heap.update S (Obj.mapSeq (fun _ => (#[] : Array Value)))).get? b = some o :=
    fun b o hb e => (Heap.get?_update_other _ _ (Ne.symm hb)).trans e
  refine wpAny_bind (wpAny_letGo ?_)
  refine extend_dict hh hd (oth d _ (Ne.symm hSd) ho) hc hdat S .none _ hS₂ (fun h' tk acc' c' hk hS' hacc => ?_) hn
  exact hR h' tk acc' c' (fun b o hb e => hk b o hb (oth b o hb e)) hS' hacc
theorem call_list_dict {Q : Value → Shared → Prop} (hh : A.handled = none) {d : Addr} {od : Obj} {es : Array DictEntry} {ep : Nat} (hd : (d == sysModules) = false) (ho : s.heap.get? d = some od) (hc : od.cls = .type "dict") (hdat : od.data = .dict es ep)
    (hQ : ∀ h' tk acc' c', (∀ b o, s.heap.get? b = some o → h'.get? b = some o) → h'.get? s.heap.objs.size = some { cls := .type "list", dict := none, data := .seq acc' c', slots := #[] } →
      ItemsOf (fun i v => ∃ e, es[i]? = some e ∧ v = e.key) acc' es.size → Q (.ref s.heap.objs.size) { s with heap := h', toks := tk }) (hn : es.size ≤ sizeLine) :
    wpAny (model prog w) A (call (.type "list") [.ref d]) Q E s := by
  refine callType_codes (Q₁ := fun obj s₁ => obj = .ref s.heap.objs.size ∧ s₁ = { s with heap := s.heap.push { cls := .type "list", data := .seq #[] } }) PySem.F.called_list (PySem.F.typeCall_list_1 _) PySem.F.entry_list_init
    (code_list_new _ ⟨rfl, rfl⟩) fun obj s₁ h₁ => ?_
  obtain ⟨rfl, rfl⟩ := h₁
  have hS : (s.heap.push { cls := .type "list", data := .seq #[] }).get? s.heap.objs.size = some { cls := .type "list", data := .seq #[] } := Heap.get?_push_size _ rfl
  refine ⟨⟨_, hS, rfl⟩, PySem.F.args_list_init_2 _ _, list_init_dict (A := A.in1) hh hd (Heap.get?_push_of_some _ ho) hc hdat _ hS (fun h' tk acc' c' hk hS' hacc => ?_) hn⟩
  exact ⟨rfl, hQ h' tk acc' c' (fun b o e => hk b o (Nat.ne_of_lt (Heap.lt_size e)) (Heap.get?_push_of_some _ e)) hS' hacc⟩
end
section
variable {X : Cx}
def rListD : List V → Hp → VK → Prop := fun xs H Q => ∃ d kvs, xs = [.ref d] ∧ H d = some (.dT kvs) ∧ ∀ (bs : List Addr) l, bs.length = kvs.length → (∀ (j : Nat) (b : Addr) (kv : List Key × V), bs[j]? = some b → kvs[j]? = some kv → H b = some (.tup (kv.1.map kV))) → H l = none → Q (.ref l) (upd H l (.lst (bs.map .ref)))
theorem vals_refsD {f : List Addr} : ∀ {acc : List Value}, acc = f.map Value.ref → Vals (f.map V.ref) acc := by
  intro acc e
  subst e
  induction f with
  | nil => exact .nil
  | cons a f ih => exact .cons rfl ih
theorem call_listD (hc : X.calm = true) : CallR X (.type "list") rListD := by
  intro pins s σ H xs us Q I r h
  obtain ⟨d, kvs, rfl, e, q⟩ := h
  obtain ⟨u, rfl, rx⟩ := vals1 r
  cases rx
  obtain ⟨z, hd, xs, rel, o, es, ep, ho, hx, hdat, he, _⟩ := I.hok d _ e
  have hk : es.toList.map (·.key) = (xs.map fun q => q.2.1).map Value.ref := by
    rw [he, List.map_map, List.map_map]
    rfl
  have lb : (xs.map fun q => q.2.1).length = kvs.length := by rw [List.length_map]; exact (Paired.length rel).symm
  have ls : es.size = kvs.length := by
    have := congrArg List.length hk
    rw [List.length_map, List.length_map, lb] at this
    simpa using this
  refine call_list_dict (I.ok.hd hc) hd ho hx.1 hdat (fun h' tk acc' c' kp hS hacc => ?_) (by omega)
  have ea : acc'.toList = (xs.map fun q => q.2.1).map Value.ref := by
    rw [← hk]
    refine List.ext_getElem? fun j => ?_
    rw [List.getElem?_map, Array.getElem?_toList, Array.getElem?_toList]
    have ha : acc'.size = es.size := hacc.1
    by_cases hj : j < es.size
    · have hj' : j < acc'.size := by omega
      obtain ⟨e, e1, e2⟩ := hacc.2 j acc'[j] (Array.getElem?_eq_getElem hj')
      rw [Array.getElem?_eq_getElem hj', e1, e2]
      rfl
    · rw [Array.getElem?_eq_none (by omega), Array.getElem?_eq_none (by omega)]
      rfl
  refine ⟨.ref s.heap.objs.size, _, I.laid (t' := tk) kp (Nat.le_refl _) (o := .lst ((xs.map fun q => q.2.1).map .ref)) ⟨by rw [List.length_map, lb]; exact z, acc'.toList, c', vals_refsD ea, by simpa using hS⟩, rfl, q _ _ lb (paired_at rel) (I.hok.fresh (Nat.le_refl _))⟩
def rNotInL (K : PySem.W.Frag) : R2 := fun x y H Q => ∃ d es, RdD K H d x ∧ RdD K H (.list es) y ∧ d.canLay0 = true ∧ PyData.canLayAll0 es = true ∧ d.depth ≤ 60 ∧ Q (.bl (!(es.any fun e => PyData.eqv e d))) H
theorem op_notInL (hu : X.A.units + 64 < cLine) : OpR X (compareOp .NotIn) (rNotInL X.K) := by
  intro pins s σ H x y v u Q I rx ry h
  obtain ⟨d, es, hd, he, c1, c2, c3, q⟩ := h
  obtain ⟨as, ra⟩ := reads_of I d x v hd rx
  obtain ⟨bs, rb⟩ := reads_of I _ y u he ry
  exact SeqAt.notIn_list_reads rb ra c2 c1 (by omega) ⟨.bl _, H, I, rfl, q⟩
end
end L2
set_option Elab.async false
set_option linter.all false
set_option maxRecDepth 100000
set_option maxHeartbeats 4000000
namespace L2
open PySem PySem.Spec PyProof.Rows
namespace RV
theorem mro : mroOf (.type "reversed") = pure [.type "reversed", .type "object"] := by rw [mroOf_type]; kernel_rfl
theorem lookNew : typeLookup (.type "reversed") "__new__" = pure (some (.builtin "reversed.__new__")) := by rw [typeLookup_type, builtinLookup_eq_fast]; kernel_rfl
theorem made : Bind.madeBy (.type "reversed") = pure (some "reversed.__new__") := madeBy_type mro lookNew (by decide +kernel)
theorem notType : (Value.type "reversed" == Value.type "type") = false := by decide +kernel
theorem canCreate : ((Manifest.find? "reversed").bind (·.mro.findSome? fun t => (Manifest.find? t).bind fun b => if b.noNew then some true else if b.attrs.any (·.1 == "__new__") then some false else none)).getD false = false := by decide +kernel
theorem typeCall (a : Value) : checkTypeCall "reversed" ⟨[a], []⟩ = pure () := by kernel_rfl
theorem newCall (a : Value) : checkBuiltinCall "reversed.__new__" ⟨[.type "reversed", a], []⟩ = pure () := by kernel_rfl
theorem entryNew : entryFor table "reversed.__new__" = some Builtin.«reversed.__new__» := entryFor_of_tree (by kernel_rfl)
theorem plainNew : plainId "reversed.__new__" = true := by decide +kernel
theorem subSelf : isSubtype (.type "reversed") (.type "reversed") = pure true := by rw [isSubtype_type]; kernel_rfl
theorem subIt : isSubtype (.type "list_reverseiterator") (.type "reversed") = pure false := by rw [isSubtype_type]; kernel_rfl
theorem slotIter : Slot "list_reverseiterator" "__iter__" "list_reverseiterator.__iter__" :=
  .of (owner := "list_reverseiterator") (n := "__iter__") (by rw [typeLookup_type, builtinLookup_eq_fast]; kernel_rfl) (by decide +kernel) (by decide +kernel) (by decide +kernel)
    (by first | exact .inl (by decide +kernel) | exact .inr (by decide +kernel)) (by rw [isSubtype_type]; kernel_rfl)
theorem slotNext : Slot "list_reverseiterator" "__next__" "list_reverseiterator.__next__" :=
  .of (owner := "list_reverseiterator") (n := "__next__") (by rw [typeLookup_type, builtinLookup_eq_fast]; kernel_rfl) (by decide +kernel) (by decide +kernel) (by decide +kernel)
    (by first | exact .inl (by decide +kernel) | exact .inr (by decide +kernel)) (by rw [isSubtype_type]; kernel_rfl)
theorem entryIter : entryFor table "list_reverseiterator.__iter__" = some Builtin.«dict_keyiterator.__iter__» :=
  entryFor_alias (id' := "dict_keyiterator.__iter__") (by kernel_rfl) rfl (by decide +kernel) (by kernel_rfl)
theorem entryNext : entryFor table "list_reverseiterator.__next__" = some Builtin.«list_reverseiterator.__next__» := entryFor_of_tree (by kernel_rfl)
theorem owner : Manifest.owners.lookup (String.ofList "list_reverseiterator".toList.reverse.reverse) = some Manifest.sig_list_reverseiterator := by kernel_rfl
theorem argsIter (a : Value) : argsOk "list_reverseiterator.__iter__" ⟨[a], []⟩ := by
  unfold argsOk; rw [signature?_of (id := "list_reverseiterator.__iter__") (n := "__iter__".toList.reverse) (o := "list_reverseiterator".toList.reverse) (by kernel_rfl) owner]; kernel_rfl
theorem argsNext (a : Value) : argsOk "list_reverseiterator.__next__" ⟨[a], []⟩ := by
  unfold argsOk; rw [signature?_of (id := "list_reverseiterator.__next__") (n := "__next__".toList.reverse) (o := "list_reverseiterator".toList.reverse) (by kernel_rfl) owner]; kernel_rfl
theorem noLen : typeLookup (.type "list_reverseiterator") "__len__" = pure none := by rw [typeLookup_type, builtinLookup_eq_fast]; kernel_rfl
theorem hint : typeLookup (.type "list_reverseiterator") "__length_hint__" = pure (some (.builtin "list_reverseiterator.__length_hint__")) := by rw [typeLookup_type, builtinLookup_eq_fast]; kernel_rfl
end RV
abbrev rvO (l : Addr) (n : Nat) : Obj := { cls := .type "list_reverseiterator", data := .fields #[.ref l, rawInt ((n : Int) - 1)] }
section
variable {prog : Program} {w : World} {A : Around} {E : Value → Shared → Prop} {s : Shared} {R : Result → Shared → Prop}
theorem code_reversed_new {l : Addr} {items : Array Value} {n : Nat} {Q₁ : Value → Shared → Prop} (hl : s.heap.get? l = some { cls := .type "list", dict := none, data := .seq items n, slots := #[] })
    (h : Q₁ (.ref s.heap.objs.size) { s with heap := s.heap.push (rvO l items.size) }) :
    codeAny (model prog w) A (.call (.builtin "reversed.__new__") ⟨[.type "reversed", .ref l], []⟩) (wants Q₁ E) s := by
  refine codeAny_of_tree ?_
  show wpAny _ A.in1 (do checkBuiltinCall "reversed.__new__" ⟨[.type "reversed", .ref l], []⟩; again (.builtin "reversed.__new__" ⟨[.type "reversed", .ref l], []⟩)) _ _ s
  refine wpAny_bind (wpAny_of_eq (RV.newCall (.ref l)) (wpAny_pure ⟨plainId_quiet RV.plainNew _, codeAny_builtin RV.entryNew ?_⟩))
  rw [Around.under_plainId RV.plainNew _]
  unfold Builtin.«reversed.__new__» Builtin.SmallTypes.newClass
  have hsub := RV.subSelf
  have hT : s.TypeIs (.ref l) "list" := ⟨_, hl, rfl⟩
  have hlk := PySem.F.slot_list_reversed.lookup
  have hbi := PySem.F.slot_list_reversed.bind (.ref l)
  wp_walk
  refine codeAny_mono (codeAny_call_builtin (R := wants (fun obj s₁ => obj = .ref s.heap.objs.size ∧ s₁ = { s with heap := s.heap.push (rvO l items.size) }) E) PySem.F.slot_list_reversed.plain PySem.F.entry_list_reversed (PySem.F.slot_list_reversed.check _ _ _ _ _ _ _ _ hT (PySem.F.args_list_reversed_1 _) (AutoListH.list___reversed___list_0 l items n prog w A.in1 _ s ⟨hl, rfl, rfl⟩))) fun r s₁ hr => ?_
  cases r with
  | error e => exact hr
  | ok fl =>
    cases fl with
    | ret obj =>
      obtain ⟨rfl, rfl⟩ := hr
      exact wpAny_pure h
    | _ => exact hr.elim
theorem call_reversed {l : Addr} {items : Array Value} {n : Nat} {Q : Value → Shared → Prop} (hl : s.heap.get? l = some { cls := .type "list", dict := none, data := .seq items n, slots := #[] })
    (h : Q (.ref s.heap.objs.size) { s with heap := s.heap.push (rvO l items.size) }) :
    wpAny (model prog w) A (call (.type "reversed") [.ref l]) Q E s := by
  have hmro := RV.mro
  have hmade := RV.made
  have hsub := RV.subIt
  refine wpAny_call (codeAny_of_tree ?_)
  show wpAny _ _ (callAny (.type "reversed") _) _ _ _
  refine wpAny_pure ⟨Code.quiet_builtin _ (by decide +kernel), codeAny_builtin PySem.F.entry_type_call ?_⟩
  rw [Around.under_plain (weight_type_call_type "reversed" [.ref l] []) rfl]
  have h1 := RV.notType
  have h2 := RV.canCreate
  have hct := RV.typeCall (.ref l)
  repeat (any_goals (first | assumption | wp_step))
  refine codeAny_mono (code_reversed_new (E := E) (Q₁ := fun obj s₁ => obj = .ref s.heap.objs.size ∧ s₁ = { s with heap := s.heap.push (rvO l items.size) }) hl ⟨rfl, rfl⟩) fun r s₁ hr => ?_
  cases r with
  | error e => exact hr
  | ok fl =>
    cases fl with
    | ret obj =>
      obtain ⟨rfl, rfl⟩ := hr
      have hT : Shared.TypeIs { s with heap := s.heap.push (rvO l items.size) } (.ref s.heap.objs.size) "list_reverseiterator" := ⟨_, Heap.get?_push_size _ rfl, rfl⟩
      repeat (any_goals (first | assumption | wp_step))
    | _ => exact hr.elim
def IsRev (h : Heap) (it l : Addr) (m : Nat) : Prop := h.get? it = some (rvO l m)
theorem rev_self {it l : Addr} {m : Nat} {Q : Value → Shared → Prop} (hit : IsRev s.heap it l m) (h : Q (.ref it) s) : wpAny (model prog w) A (pyIter (.ref it)) Q E s := by
  have ty : s.TypeIs (.ref it) "list_reverseiterator" := ⟨_, hit, rfl⟩
  refine wpAny_pyIter_slot ty RV.slotIter (wpAny_call_entry RV.slotIter ty RV.entryIter ?_ (RV.argsIter _))
  show wpAny _ _ (ret (.ref it)) _ _ s
  exact wpAny_pure ⟨_, rfl, "list_reverseiterator", _, ty, RV.slotNext.lookup, h⟩
theorem rev_item {it l : Addr} {m : Nat} {items : Array Value} {x : Value} {Q : Option Value → Shared → Prop} (hit : IsRev s.heap it l (m + 1)) (hl : s.heap.IsList l items) (hx : items[m]? = some x)
    (hQ : ∀ h', IsRev h' it l m → Heap.SameBut it s.heap h' → Q (some x) { s with heap := h' }) : wpAny (model prog w) A (pyNext (.ref it)) Q E s := by
  have ty : s.TypeIs (.ref it) "list_reverseiterator" := ⟨_, hit, rfl⟩
  obtain ⟨ol, hol, _, nl, hdl⟩ := hl
  unfold pyNext
  refine wpAny_bind (wpAny_attempt (wpAny_callSpecial?_slot (name := Str.ofString "__next__") ty RV.slotNext (wpAny_call_entry RV.slotNext ty RV.entryNext ?_ (RV.argsNext _))))
  show wpAny _ _ (field (.ref it) 1 >>= _) _ _ s
  have em : (((m + 1 : Nat) : Int) - 1) = (m : Int) := by omega
  refine wpAny_bind (wpAny_field hit rfl (x := .int (((m + 1 : Nat) : Int) - 1) 0) rfl ?_)
  rw [em]
  show wpAny _ _ (if (m : Int) < 0 then _ else _) _ _ s
  rw [if_neg (by omega)]
  show wpAny _ _ (field (.ref it) 0 >>= _) _ _ s
  refine wpAny_bind (wpAny_field hit rfl (x := .ref l) rfl ?_)
  show wpAny _ _ (seqItems? (.ref l) >>= _) _ _ s
  refine wpAny_bind (wpAny_seqItems hol hdl ?_)
  simp only [Int.toNat_natCast, hx]
  refine wpAny_bind (wpAny_setField hit rfl (by simp) (wpAny_pure ⟨x, rfl, wpAny_pure (hQ _ ?_ (Heap.SameBut.update ..))⟩))
  have z := Heap.get?_update_self (Obj.mapFields fun fs => fs.set! 1 (rawInt ((m : Int) - 1))) hit rfl
  exact z
theorem rev_end {it l : Addr} {Q : Option Value → Shared → Prop} (hh : A.handled = none) (hit : IsRev s.heap it l 0)
    (hQ : ∀ h', Heap.ExtBut it s.heap h' → Q none { s with heap := h' }) : wpAny (model prog w) A (pyNext (.ref it)) Q E s := by
  have ty : s.TypeIs (.ref it) "list_reverseiterator" := ⟨_, hit, rfl⟩
  unfold pyNext
  refine wpAny_bind (wpAny_attempt (wpAny_callSpecial?_slot (name := Str.ofString "__next__") ty RV.slotNext (wpAny_call_entry RV.slotNext ty RV.entryNext ?_ (RV.argsNext _))))
  show wpAny _ _ (field (.ref it) 1 >>= _) _ _ s
  refine wpAny_bind (wpAny_field hit rfl (x := .int (((0 : Nat) : Int) - 1) 0) rfl ?_)
  show wpAny _ _ (if (((0 : Nat) : Int) - 1) < 0 then _ else _) _ _ s
  rw [if_pos (by decide)]
  refine wpAny_bind (wpAny_rule (wpAny_bind ?_))
  show wpAny _ _ (newExc (.type "StopIteration") [] >>= _) _ _ _
  refine wpAny_bind ?_
  simp only [newExc, newTuple]
  refine wpAny_bind (wpAny_newObj_type ?_ (by size_fits))
  refine wpAny_bind (m := firstArgMember _ _) (wpAny_of_eq (a := Value.none) (by first | rfl | (simp only [firstArgMember]; rfl)) ?_)
  refine wpAny_newObj_type ?_ (by size_fits)
  simp only [raiseNew]
  refine wpAny_bind (wpAny_handled ?_)
  rw [show A.in1.handled = none from hh]
  refine wpAny_bind (wpAny_pure (wpAny_throw ?_))
  refine wpAny_bind (wpAny_isInstance (T := "StopIteration") (b := true) ⟨_, Heap.get?_push_size _ rfl, rfl⟩ isSubtype_stop ?_)
  exact wpAny_pure (hQ _ fun b o _ e => Heap.get?_push_of_some _ (Heap.get?_push_of_some _ e))
theorem walks_rev (hh : A.handled = none) (I l : Addr) (hne : l ≠ I) (items : Array Value) :
    Walks prog w A I [I, l] [I] items.size (fun i v => items[items.size - 1 - i]? = some v) (fun i h => (∃ m, m + i = items.size ∧ IsRev h I l m) ∧ h.IsList l items) where
  sub := fun b hb => by simp at hb; simp [hb]
  frame := fun _ _ _ st hk => ⟨let ⟨m, e, r⟩ := st.1; ⟨m, e, hk I (by simp) _ r⟩, st.2.at fun o e => hk l (by simp) o e⟩
  item := fun i s Q E hi st hQ => by
    obtain ⟨⟨m, e, r⟩, hl⟩ := st
    obtain ⟨k, rfl⟩ : ∃ k, m = k + 1 := ⟨m - 1, by omega⟩
    have hk : k < items.size := by omega
    refine rev_item r hl (x := items[k]) (Array.getElem?_eq_getElem hk) fun h' hit' hs' => ?_
    exact hQ _ h' s.toks (by rw [show items.size - 1 - i = k by omega]; exact Array.getElem?_eq_getElem hk) ⟨⟨k, by omega, hit'⟩, hl.extBut hs'.extBut hne⟩ fun b o hb e => hs'.extBut b o (fun h => hb (by simp [h])) e
  done := fun s Q E st hQ => by
    obtain ⟨⟨m, e, r⟩, hl⟩ := st
    have e0 : m = 0 := by omega
    subst e0
    exact rev_end hh r fun h' he' => hQ h' s.toks fun b o hb e => he' b o (fun h => hb (by simp [h])) e
  self := fun _ _ _ _ st hQ => let ⟨m, e, r⟩ := st.1; rev_self r hQ
theorem extend_rev (hh : A.handled = none) {r l : Addr} {items : Array Value} (hr : IsRev s.heap r l items.size) (hl : s.heap.IsList l items) (hlr : l ≠ r) (S : Addr) (res : Value) (c₀ : Nat) (hS : s.heap.get? S = some { cls := .type "list", data := .seq #[] c₀ }) (hSl : S ≠ l)
    (hR : ∀ h' tk acc' c', (∀ b o, b ≠ S → b ≠ r → s.heap.get? b = some o → h'.get? b = some o) → h'.get? S = some { cls := .type "list", dict := none, data := .seq acc' c', slots := #[] } →
      ItemsOf (fun i v => items[items.size - 1 - i]? = some v) acc' items.size → R (.ok (.ret res)) { s with heap := h', toks := tk }) (hn : items.size ≤ sizeLine) :
    wpAny (model prog w) A.in1 (Builtin.List.listExtendWith (.ref S) (.ref r) res)
      (fun fin s' => match fin with | .done f => R (.ok f) s' | .again c' => c'.quiet = true ∧ codeAny (model prog w) A c' R s') (fun e s' => R (.error e) s') s := by
  have hSr : S ≠ r := fun e => by
    have hr : s.heap.get? r = some (rvO l items.size) := hr
    rw [e, hr] at hS
    have := congrArg Obj.data (Option.some.inj hS)
    cases this
  have hSf : S ∉ [r, l] := fun hm => (List.mem_cons.mp hm).elim hSr fun z => hSl (List.mem_singleton.mp z)
  have ty : s.TypeIs (.ref r) "list_reverseiterator" := ⟨_, hr, rfl⟩
  unfold Builtin.List.listExtendWith
  refine wpAny_bind (wpAny_typeOf ty ?_)
  have h1 : Builtin.List.listSameRef (.ref S) (.ref r) = false := by simp [Builtin.List.listSameRef, hSr]
  have h2 : (Value.type "list_reverseiterator" == Value.type "list") = false := by decide
  have h3 : (Value.type "list_reverseiterator" == Value.type "tuple") = false := by decide
  simp only [h1, h2, h3, Bool.or_false, Bool.false_eq_true, if_false]
  refine wpAny_bind (rev_self hr ?_)
  refine wpAny_bind (wpAny_holding ?_)
  unfold Builtin.List.listLengthHint
  refine wpAny_bind (wpAny_specialOf ty RV.noLen ?_)
  wp_delta
  refine wpAny_bind (wpAny_specialOf ty RV.hint ?_)
  refine wpAny_bind (wpAny_isInstance ty (b := true) (by rw [isSubtype_type]; kernel_rfl) ?_)
  refine wpAny_pure ?_
  rw [if_neg (by decide)]
  refine wpAny_pure ⟨plainId_quiet F.plain_extend_loop _, codeAny_extend_loopS (walks_rev (A := A.in1) hh r l hlr items).toS hn _ hSf _ items.size 0 _ _ _ rfl (Nat.zero_le _) ⟨⟨_, by omega, hr⟩, hl⟩ hS (ItemsOf.nil _) fun s' acc' c' hm hS' hacc => ?_⟩
  rw [Moved.eq_with hm]
  refine hR s'.heap s'.toks acc' c' (fun b ob hb hb' e => hm.heap b ob (fun hmem => ?_) e) hS' hacc
  rcases List.mem_cons.mp hmem with e' | hmem
  · exact hb e'
  · exact hb' (List.mem_singleton.mp hmem)
theorem call_list_rev {Q : Value → Shared → Prop} (hh : A.handled = none) {r l : Addr} {items : Array Value} (hr : IsRev s.heap r l items.size) (hl : s.heap.IsList l items) (hlr : l ≠ r)
    (hQ : ∀ h' tk acc' c', (∀ b o, b ≠ r → s.heap.get? b = some o → h'.get? b = some o) → h'.get? s.heap.objs.size = some { cls := .type "list", dict := none, data := .seq acc' c', slots := #[] } →
      ItemsOf (fun i v => items[items.size - 1 - i]? = some v) acc' items.size → Q (.ref s.heap.objs.size) { s with heap := h', toks := tk }) (hn : items.size ≤ sizeLine) :
    wpAny (model prog w) A (call (.type "list") [.ref r]) Q E s := by
  refine callType_codes (Q₁ := fun obj s₁ => obj = .ref s.heap.objs.size ∧ s₁ = { s with heap := s.heap.push { cls := .type "list", data := .seq #[] } }) PySem.F.called_list (PySem.F.typeCall_list_1 _) PySem.F.entry_list_init
    (code_list_new _ ⟨rfl, rfl⟩) fun obj s₁ h₁ => ?_
  obtain ⟨rfl, rfl⟩ := h₁
  have hS : (s.heap.push { cls := .type "list", data := .seq #[] }).get? s.heap.objs.size = some { cls := .type "list", data := .seq #[] } := Heap.get?_push_size _ rfl
  have hl1 := hl.push { cls := .type "list", data := .seq #[] }
  have hr1 : IsRev (s.heap.push { cls := .type "list", data := .seq #[] }) r l items.size := Heap.get?_push_of_some _ hr
  have nl : l ≠ s.heap.objs.size := by obtain ⟨o, ho, _⟩ := hl; exact Nat.ne_of_lt (Heap.lt_size ho)
  have nr : r ≠ s.heap.objs.size := Nat.ne_of_lt (Heap.lt_size hr)
  have kp : ∀ b o, s.heap.get? b = some o → (s.heap.push { cls := .type "list", data := .seq #[] }).get? b = some o := fun b o e => Heap.get?_push_of_some _ e
  refine ⟨⟨_, hS, rfl⟩, PySem.F.args_list_init_2 _ _, ?_⟩
  generalize s.heap.push { cls := .type "list", data := .seq #[] } = h1 at *
  show wpAny _ _ (do let old ← Builtin.List.listItems (.ref s.heap.objs.size); Builtin.List.listUpdate (.ref s.heap.objs.size) (fun _ => #[]); letGo old.toList.reverse; Builtin.List.listExtendWith (.ref s.heap.objs.size) (.ref r) .none) _ _ _
  refine wpAny_bind ?_
  unfold Builtin.List.listItems
  refine wpAny_bind (wpAny_seqItems hS rfl (wpAny_pure ?_))
  show wpAny _ _ (updateSeq s.heap.objs.size (fun _ => #[]) >>= fun _ => letGo (#[] : Array Value).toList.reverse >>= fun _ => Builtin.List.listExtendWith (.ref s.heap.objs.size) (.ref r) .none) _ _ _
  refine wpAny_bind (wpAny_updateSeq hS rfl ?_)
  have hS₂ := Heap.get?_update_self (Obj.mapSeq (fun _ => (#[] : Array Value))) hS rfl
  have oth : ∀ b o, b ≠ s.heap.objs.size → h1.get? b = some o → (h1.update s.heap.objs.size (Obj.mapSeq (fun _ => (#[] : Array Value)))).get? b = some o :=
    fun b o hb e => (Heap.get?_update_other _ _ (Ne.symm hb)).trans e
  refine wpAny_bind (wpAny_letGo ?_)
  have hr2 : IsRev (h1.update s.heap.objs.size (Obj.mapSeq (fun _ => (#[] : Array Value)))) r l items.size := oth r _ nr hr1
  refine extend_rev (A := A.in1) (r := r) (l := l) (items := items) hh hr2 (hl1.at fun o e => oth l o nl e) hlr _ .none _ hS₂ (Ne.symm nl) (fun h' tk acc' c' hk hS' hacc => ?_) hn
  exact ⟨rfl, hQ h' tk acc' c' (fun b o hb e => hk b o (Nat.ne_of_lt (Heap.lt_size e)) hb (oth b o (Nat.ne_of_lt (Heap.lt_size e)) (kp b o e))) hS' hacc⟩
end
theorem vals_rev {xs : List V} {its : List Value} (r : Vals xs its) : Vals xs.reverse its.reverse := by
  induction r with
  | nil => exact .nil
  | cons a t ih => rw [List.reverse_cons, List.reverse_cons]; exact ih.append (.cons a .nil)
section
variable {X : Cx}
def rRev : List V → Hp → VK → Prop := fun xs H Q => ∃ l ys, xs = [.ref l] ∧ H l = some (.lst ys) ∧ ∀ a, H a = none → Q (.ref a) (upd H a (.lst ys.reverse))
theorem pe_listRev {x y : Str} {p p' pos pos' : Pos} {e : Expr} {t : TA} (hc : X.calm = true) (hg : Gl X x) (hm : X.mg x = none) (hv : bootBuiltins x = some (.type "list")) (hg' : Gl X y) (hm' : X.mg y = none) (hv' : bootBuiltins y = some (.type "reversed")) (ha : PA X [e] t)
    (hn : x ≠ "__name__" := by decide) (hdb : (x == ("__debug__" : Str)) = false := by decide) (hn' : y ≠ "__name__" := by decide) (hdb' : (y == ("__debug__" : Str)) = false := by decide)
    (he : starEach [e] X.env = (false, eval e X.env) :: starEach [] X.env := by rfl) : PE X (.Call (.Name x p) [.Call (.Name y p') [e] [] pos'] [] pos) (tCB rRev t) := by
  intro pins s σ H Q I h
  refine wpAny_Call_Name_kw (ld_blt I hg hm hv ?_ hn hdb)
  refine PyProof.Rows.callWith_type1 ?_ rfl rfl
  show wpAny _ _ (spliced ((false, eval (.Call (.Name y p') [e] [] pos') X.env) :: backTo pos (starEach [] X.env))) _ _ _
  refine Calls.spliced_cons ?_
  refine wpAny_Call_Name_kw (ld_blt I hg' hm' hv' ?_ hn' hdb')
  refine PyProof.Rows.callWith_type1 (thn (ha pos' pins s σ H _ I h) fun us s1 ⟨vs, H1, I1, r1, q1⟩ => ?_) he rfl
  obtain ⟨l, ys, rfl, hl, q⟩ := q1
  obtain ⟨u, rfl, rx⟩ := vals1 r1
  cases rx
  obtain ⟨z, its, n, r', el⟩ := I1.hok l _ hl
  refine call_reversed el ?_
  refine wpAny_pure ?_
  have ll : l < s1.heap.objs.size := Heap.lt_size el
  have hsz := r'.length
  refine call_list_rev (items := its.toArray) (I1.ok.hd hc) (Heap.get?_push_size _ rfl) ⟨_, Heap.get?_push_of_some _ el, rfl, n, rfl⟩ (Nat.ne_of_lt ll) (fun h' tk acc' c' kp hS hacc => ?_) (by simp only [List.size_toArray]; omega)
  have ea : acc'.toList = its.reverse := by
    have ha : acc'.size = its.length := by have := hacc.1; simpa using this
    refine List.ext_getElem? fun j => ?_
    rw [Array.getElem?_toList]
    by_cases hj : j < its.length
    · have hj' : j < acc'.size := by omega
      have := hacc.2 j acc'[j] (Array.getElem?_eq_getElem hj')
      rw [Array.getElem?_eq_getElem hj', List.getElem?_reverse hj, ← this]
      simp
    · rw [Array.getElem?_eq_none (by omega), List.getElem?_eq_none (by rw [List.length_reverse]; omega)]
  refine ⟨.ref _, _, I1.laid (t' := tk) (a := (s1.heap.push (rvO l its.toArray.size)).objs.size) (o := .lst ys.reverse) (fun b o e => kp b o (Nat.ne_of_lt (Heap.lt_size e)) (Heap.get?_push_of_some _ e)) (by rw [Heap.size_push]; omega) ⟨by rw [List.length_reverse]; exact z, acc'.toList, c', by rw [ea]; exact vals_rev r', by simpa using hS⟩, rfl, q _ (I1.hok.fresh (by rw [Heap.size_push]; omega))⟩
end
end L2
set_option Elab.async false
set_option linter.all false
set_option maxRecDepth 100000
set_option maxHeartbeats 4000000
namespace My
def G (a b : Int) : Int := (Int.gcd a b : Nat)
theorem G_nonneg (a b : Int) : 0 ≤ G a b := Int.natCast_nonneg _
theorem G_mod (a b : Int) (hb : 0 < b) : G b (Int.fmod a b) = G a b := by
  unfold G
  rw [Int.fmod_eq_emod_of_nonneg a (Int.le_of_lt hb), Int.gcd_comm a b]
  have e : a % b + a / b * b = a := by rw [Int.mul_comm]; exact Int.emod_add_mul_ediv a b
  rw [← Int.gcd_add_mul_right_right b (a % b) (a / b), e]
theorem turn {c a b : Int} (h : G a b = c) (hb : 0 < b) : 0 ≤ b ∧ 0 ≤ Int.fmod a b ∧ G b (Int.fmod a b) = c :=
  ⟨Int.le_of_lt hb, Int.fmod_nonneg_of_pos a hb, by rw [G_mod a b hb, h]⟩
end My
namespace My
theorem fdiv_of_dvd {a b : Int} (h : b ∣ a) : a.fdiv b * b = a := by
  have e := Int.fmod_add_mul_fdiv a b
  have z : a.fmod b = 0 := Int.fmod_eq_zero_of_dvd h
  rw [z] at e
  rw [Int.mul_comm]
  omega
theorem natAbs_le_of_mul {x f y : Int} (e : x * f = y) (hf : f ≠ 0) : x.natAbs ≤ y.natAbs := by
  rw [← e, Int.natAbs_mul]
  exact Nat.le_mul_of_pos_right _ (by omega)
theorem pos_of_mul {x f y : Int} (e : x * f = y) (h : (0 < f ∧ 0 < y) ∨ (f < 0 ∧ y < 0)) : 0 < x := by
  rcases (by omega : 0 < x ∨ x = 0 ∨ x < 0) with hx | hx | hx
  · exact hx
  · rw [hx, Int.zero_mul] at e; omega
  · exfalso
    rcases h with ⟨h1, h2⟩ | ⟨h1, h2⟩
    · have := Int.mul_neg_of_neg_of_pos hx h1; omega
    · have := Int.mul_pos_of_neg_of_neg hx h1; omega
structure Low (n : Nat) (a b : Int) : Prop where
  pos : 0 < b
  one : G a b = 1
  la : a.natAbs < 2 ^ n
  lb : b.natAbs < 2 ^ n
theorem Low.ne {n : Nat} {a b : Int} (h : Low n a b) : b ≠ 0 := by have := h.pos; omega
theorem mul_lt {a b : Int} {m n : Nat} (h1 : a.natAbs < 2 ^ m) (h2 : b.natAbs < 2 ^ n) : (a * b).natAbs < 2 ^ (m + n) := by
  rw [Int.natAbs_mul, Nat.pow_add]
  exact Nat.mul_lt_mul'' h1 h2
theorem sub_lt {a b : Int} {m : Nat} (h1 : a.natAbs < 2 ^ m) (h2 : b.natAbs < 2 ^ m) : (a - b).natAbs < 2 ^ (m + 1) := by
  rw [Nat.pow_succ]; omega
theorem lt_mono {a : Int} {m n : Nat} (h : a.natAbs < 2 ^ m) (hm : m ≤ n) : a.natAbs < 2 ^ n := Nat.lt_of_lt_of_le h (Nat.pow_le_pow_right (by decide) hm)
end My
namespace My
end My
namespace My
end My
namespace My
def g3 (a b c : Int) : Nat := Nat.gcd (Nat.gcd a.natAbs b.natAbs) c.natAbs
theorem G_nat (a b : Int) : (G a b).natAbs = Nat.gcd a.natAbs b.natAbs := by unfold G; rw [Int.natAbs_natCast]; rfl
theorem G3 (a b c : Int) : G (G a b) c = (g3 a b c : Int) := by
  have h : (G (G a b) c).natAbs = g3 a b c := by rw [G_nat, G_nat]; rfl
  have h0 := G_nonneg (G a b) c
  omega
theorem g3_mul (a b c f : Int) : g3 (a * f) (b * f) (c * f) = g3 a b c * f.natAbs := by
  unfold g3
  rw [Int.natAbs_mul, Int.natAbs_mul, Int.natAbs_mul, Nat.gcd_mul_right, Nat.gcd_mul_right]
theorem g3_pos {a b c : Int} (h : c ≠ 0) : 0 < g3 a b c := by
  unfold g3
  exact Nat.gcd_pos_of_pos_right _ (by omega)
theorem g3_da (a b c : Int) : ((g3 a b c : Nat) : Int) ∣ a := Int.ofNat_dvd_left.mpr (Nat.dvd_trans (Nat.gcd_dvd_left _ _) (Nat.gcd_dvd_left _ _))
theorem g3_db (a b c : Int) : ((g3 a b c : Nat) : Int) ∣ b := Int.ofNat_dvd_left.mpr (Nat.dvd_trans (Nat.gcd_dvd_left _ _) (Nat.gcd_dvd_right _ _))
theorem g3_dc (a b c : Int) : ((g3 a b c : Nat) : Int) ∣ c := Int.ofNat_dvd_left.mpr (Nat.gcd_dvd_right _ _)
structure Pt (n : Nat) (x y w : Int) : Prop where
  pos : 0 < w
  one : g3 x y w = 1
  lx : x.natAbs < 2 ^ n
  ly : y.natAbs < 2 ^ n
  lw : w.natAbs < 2 ^ n
theorem Pt.ne {n : Nat} {x y w : Int} (h : Pt n x y w) : w ≠ 0 := by have := h.pos; omega
theorem Pt.mono {m n : Nat} {x y w : Int} (h : Pt m x y w) (hm : m ≤ n) : Pt n x y w := ⟨h.pos, h.one, lt_mono h.lx hm, lt_mono h.ly hm, lt_mono h.lw hm⟩
theorem pt_of {n : Nat} {x y w f : Int} (hf : f.natAbs = g3 x y w) (hs : (0 < f ∧ 0 < w) ∨ (f < 0 ∧ w < 0)) (lx : x.natAbs < 2 ^ n) (ly : y.natAbs < 2 ^ n) (lw : w.natAbs < 2 ^ n) : Pt n (x.fdiv f) (y.fdiv f) (w.fdiv f) := by
  have hd : ∀ z : Int, ((g3 x y w : Nat) : Int) ∣ z → f ∣ z := fun z h => by
    rw [← hf] at h
    exact Int.natAbs_dvd.mp h
  have ex := fdiv_of_dvd (hd x (g3_da x y w))
  have ey := fdiv_of_dvd (hd y (g3_db x y w))
  have ew := fdiv_of_dvd (hd w (g3_dc x y w))
  have hw : w ≠ 0 := by omega
  have fn : f ≠ 0 := by omega
  refine ⟨pos_of_mul ew hs, ?_, Nat.lt_of_le_of_lt (natAbs_le_of_mul ex fn) lx, Nat.lt_of_le_of_lt (natAbs_le_of_mul ey fn) ly, Nat.lt_of_le_of_lt (natAbs_le_of_mul ew fn) lw⟩
  have e := g3_mul (x.fdiv f) (y.fdiv f) (w.fdiv f) f
  rw [ex, ey, ew, hf] at e
  have hp := g3_pos (a := x) (b := y) hw
  have e' : 1 * g3 x y w = g3 (x.fdiv f) (y.fdiv f) (w.fdiv f) * g3 x y w := by omega
  exact (Nat.eq_of_mul_eq_mul_right hp e').symm
end My
namespace My
theorem g3_gt {x y w : Int} (hw : 0 < w) : 0 < G (G x y) w := by
  rw [G3]
  have := g3_pos (a := x) (b := y) (c := w) (by omega)
  omega
theorem g3_ne {x y w : Int} (hw : 0 < w) : G (G x y) w ≠ 0 := by have := g3_gt (x := x) (y := y) hw; omega
theorem g3_abs (x y w : Int) : (G (G x y) w).natAbs = g3 x y w := by rw [G3]; simp
theorem g3_lt {n : Nat} {x y w : Int} (hw : 0 < w) (lw : w.natAbs < 2 ^ n) : (G (G x y) w).natAbs < 2 ^ n := by
  rw [g3_abs]
  exact Nat.lt_of_le_of_lt (Nat.le_of_dvd (by omega) (Nat.gcd_dvd_right _ _)) lw
theorem g3_pt {n : Nat} {x y w : Int} (hw : 0 < w) (lx : x.natAbs < 2 ^ n) (ly : y.natAbs < 2 ^ n) (lw : w.natAbs < 2 ^ n) : Pt n (x.fdiv (G (G x y) w)) (y.fdiv (G (G x y) w)) (w.fdiv (G (G x y) w)) :=
  pt_of (g3_abs x y w) (.inl ⟨g3_gt hw, hw⟩) lx ly lw
end My
namespace My
end My
namespace My
def sgn (z : Int) : Int := if 0 < z then 1 else if z < 0 then -1 else 0
theorem sgn_pos {z : Int} (h : 0 < z) : sgn z = 1 := if_pos h
theorem sgn_neg {z : Int} (h : z < 0) : sgn z = -1 := by unfold sgn; rw [if_neg (by omega), if_pos h]
theorem sgn_cases (z : Int) : (0 < z ∧ sgn z = 1) ∨ (z < 0 ∧ sgn z = -1) ∨ (z = 0 ∧ sgn z = 0) := by
  rcases (by omega : 0 < z ∨ z < 0 ∨ z = 0) with h | h | h
  · exact .inl ⟨h, sgn_pos h⟩
  · exact .inr (.inl ⟨h, sgn_neg h⟩)
  · exact .inr (.inr ⟨h, by rw [h]; rfl⟩)
theorem sgn_eq_zero {z : Int} : sgn z = 0 ↔ z = 0 := by
  rcases sgn_cases z with ⟨h, e⟩ | ⟨h, e⟩ | ⟨h, e⟩ <;> rw [e] <;> omega
def bef (x1 y1 w1 x2 y2 w2 : Int) : Bool := if x1 * w2 = x2 * w1 then decide (y1 * w2 < y2 * w1) else decide (x1 * w2 < x2 * w1)
theorem frac_lt {a b c u v w : Int} (hu : 0 < u) (hv : 0 < v) (hw : 0 < w) (h1 : a * v ≤ b * u) (h2 : b * w ≤ c * v) : a * w ≤ c * u ∧ ((a * v < b * u ∨ b * w < c * v) → a * w < c * u) := by
  have e1 : (a * v) * w ≤ (b * u) * w := Int.mul_le_mul_of_nonneg_right h1 (Int.le_of_lt hw)
  have e2 : (b * w) * u ≤ (c * v) * u := Int.mul_le_mul_of_nonneg_right h2 (Int.le_of_lt hu)
  have i1 : v * (a * w) = (a * v) * w := by grind
  have i2 : v * (c * u) = (c * v) * u := by grind
  have i3 : (b * u) * w = (b * w) * u := by grind
  refine ⟨Int.le_of_mul_le_mul_left (by omega) hv, fun h => Int.lt_of_mul_lt_mul_left (a := v) ?_ (Int.le_of_lt hv)⟩
  rcases h with h | h
  · have := Int.mul_lt_mul_of_pos_right h hw; omega
  · have := Int.mul_lt_mul_of_pos_right h hu; omega
theorem bef_irr (x y w : Int) : bef x y w x y w = false := by
  unfold bef
  rw [if_pos rfl]
  exact decide_eq_false (by omega)
theorem bef_true {x1 y1 w1 x2 y2 w2 : Int} : bef x1 y1 w1 x2 y2 w2 = true ↔ (x1 * w2 < x2 * w1 ∨ (x1 * w2 = x2 * w1 ∧ y1 * w2 < y2 * w1)) := by
  unfold bef
  split
  · rename_i h
    rw [decide_eq_true_iff]
    omega
  · rename_i h
    rw [decide_eq_true_iff]
    omega
theorem bef_false {x1 y1 w1 x2 y2 w2 : Int} : bef x1 y1 w1 x2 y2 w2 = false ↔ (x2 * w1 < x1 * w2 ∨ (x1 * w2 = x2 * w1 ∧ y2 * w1 ≤ y1 * w2)) := by
  rw [← Bool.not_eq_true, bef_true]
  omega
theorem bef_trans {x1 y1 w1 x2 y2 w2 x3 y3 w3 : Int} (h1 : 0 < w1) (h2 : 0 < w2) (h3 : 0 < w3) (a : bef x1 y1 w1 x2 y2 w2 = true) (b : bef x2 y2 w2 x3 y3 w3 = true) : bef x1 y1 w1 x3 y3 w3 = true := by
  rw [bef_true] at a b ⊢
  have X := frac_lt (a := x1) (b := x2) (c := x3) h1 h2 h3 (by omega) (by omega)
  rcases a with a | ⟨a, a'⟩
  · exact .inl (X.2 (.inl a))
  · rcases b with b | ⟨b, b'⟩
    · exact .inl (X.2 (.inr b))
    · have X' := frac_lt (a := x3) (b := x2) (c := x1) h3 h2 h1 (by omega) (by omega)
      have Y := frac_lt (a := y1) (b := y2) (c := y3) h1 h2 h3 (by omega) (by omega)
      exact .inr ⟨Int.le_antisymm X.1 X'.1, Y.2 (.inl a')⟩
theorem pt_uniq {n : Nat} {x1 y1 w1 x2 y2 w2 : Int} (p : Pt n x1 y1 w1) (q : Pt n x2 y2 w2) (ex : x1 * w2 = x2 * w1) (ey : y1 * w2 = y2 * w1) : x1 = x2 ∧ y1 = y2 ∧ w1 = w2 := by
  have a := g3_mul x1 y1 w1 w2
  have b := g3_mul x2 y2 w2 w1
  rw [p.one, Nat.one_mul] at a
  rw [q.one, Nat.one_mul] at b
  rw [ex, ey, Int.mul_comm w1 w2] at a
  have hw : w1 = w2 := by
    have := p.pos
    have := q.pos
    omega
  subst hw
  exact ⟨Int.eq_of_mul_eq_mul_right p.ne ex, Int.eq_of_mul_eq_mul_right p.ne ey, rfl⟩
theorem bef_tri {n : Nat} {x1 y1 w1 x2 y2 w2 : Int} (p : Pt n x1 y1 w1) (q : Pt n x2 y2 w2) (h : bef x1 y1 w1 x2 y2 w2 = bef x2 y2 w2 x1 y1 w1) : x1 = x2 ∧ y1 = y2 ∧ w1 = w2 := by
  cases e : bef x1 y1 w1 x2 y2 w2 with
  | true =>
    have e' := h.symm.trans e
    rw [bef_true] at e e'
    omega
  | false =>
    have e' := h.symm.trans e
    rw [bef_false] at e e'
    exact pt_uniq p q (by omega) (by omega)
def lnA (x1 y1 w1 x2 y2 w2 : Int) : Int := y1 * w2 - w1 * y2
def lnB (x1 y1 w1 x2 y2 w2 : Int) : Int := w1 * x2 - x1 * w2
def lnC (x1 y1 w1 x2 y2 w2 : Int) : Int := x1 * y2 - y1 * x2
def det3 (x1 y1 w1 x2 y2 w2 x3 y3 w3 : Int) : Int := lnA x1 y1 w1 x2 y2 w2 * x3 + lnB x1 y1 w1 x2 y2 w2 * y3 + lnC x1 y1 w1 x2 y2 w2 * w3
end My
namespace My
end My
namespace My
structure S6 where
  x1 : Int
  y1 : Int
  w1 : Int
  x2 : Int
  y2 : Int
  w2 : Int
theorem sgn_diff (l : Int) : (if 0 < l then (1 : Int) else 0) - (if l < 0 then (1 : Int) else 0) = sgn l := by
  unfold sgn
  split <;> split <;> omega
end My
namespace My
end My
namespace My
theorem G_fmod (x y : Int) : G y (x.fmod y) = G x y := by
  unfold G
  rw [Int.gcd_comm x y]
  have e : x.fmod y + x.fdiv y * y = x := by rw [Int.mul_comm]; exact Int.fmod_add_mul_fdiv x y
  rw [← Int.gcd_add_mul_right_right y (x.fmod y) (x.fdiv y), e]
theorem fmod_small {x y : Int} (h : y ≠ 0) : (x.fmod y).natAbs < y.natAbs := by
  have h0 := Int.emod_nonneg x h
  have h1 := Int.emod_lt x h
  rw [Int.fmod_eq_emod]
  split
  · omega
  · rename_i c
    have hn : x % y ≠ 0 := fun z => c (.inr (Int.dvd_of_emod_eq_zero z))
    have hy : ¬ 0 ≤ y := fun z => c (.inl z)
    omega
theorem G_end (x : Int) : (if x < 0 then -x else x) = G x 0 := by
  unfold G
  rw [Int.gcd_zero_right]
  split <;> omega
theorem det3_cols (x1 y1 w1 x2 y2 w2 x3 y3 w3 : Int) : x1 * (y2 * w3 - y3 * w2) - y1 * (x2 * w3 - x3 * w2) + w1 * (x2 * y3 - x3 * y2) = det3 x1 y1 w1 x2 y2 w2 x3 y3 w3 := by
  unfold det3 lnA lnB lnC; grind
theorem g3_one (x y : Int) : g3 x y 1 = 1 := by unfold g3; simp
end My
namespace My
structure Q3 where
  x : Int
  y : Int
  w : Int
deriving DecidableEq
def dt (a b c : Q3) : Int := det3 a.x a.y a.w b.x b.y b.w c.x c.y c.w
def dX (a b : Q3) : Int := b.x * a.w - a.x * b.w
def dY (a b : Q3) : Int := b.y * a.w - a.y * b.w
def LP (u v : Int) : Prop := 0 < u ∨ (u = 0 ∧ 0 < v)
def Lt (s : Int) (a b : Q3) : Prop := LP (s * dX a b) (s * dY a b)
theorem lp_no {u v : Int} (h : LP u v) (h' : LP (-u) (-v)) : False := by
  unfold LP at *
  omega
theorem lex_nn {A B C u1 u2 v1 v2 w1 w2 : Int} (e1 : A * u1 = B * v1 + C * w1) (e2 : A * u2 = B * v2 + C * w2) (hu : LP u1 u2) (hv : LP v1 v2) (hw : LP w1 w2) (hB : 0 ≤ B) (hC : 0 ≤ C) : 0 ≤ A := by
  have nn : ∀ {K a b : Int}, 0 ≤ K → LP a b → 0 ≤ K * a ∧ (K * a = 0 → 0 ≤ K * b) := fun {K a b} hK h => by
    rcases h with h | ⟨h, h'⟩
    · refine ⟨Int.mul_nonneg hK (by omega), fun e => ?_⟩
      rcases Int.mul_eq_zero.mp e with e | e
      · rw [e, Int.zero_mul]; exact Int.le_refl _
      · omega
    · exact ⟨by rw [h, Int.mul_zero]; exact Int.le_refl _, fun _ => Int.mul_nonneg hK (by omega)⟩
  have nB := nn hB hv
  have nC := nn hC hw
  rcases hu with h | ⟨h, h'⟩
  · refine Int.not_lt.mp fun z => ?_
    have := Int.mul_neg_of_neg_of_pos z h
    omega
  · rw [h, Int.mul_zero] at e1
    have b0 : B * v1 = 0 := by omega
    have c0 : C * w1 = 0 := by omega
    have := nB.2 b0
    have := nC.2 c0
    refine Int.not_lt.mp fun z => ?_
    have := Int.mul_neg_of_neg_of_pos z h'
    omega
theorem lex_pos {A B C u1 u2 v1 v2 w1 w2 : Int} (e1 : A * u1 = B * v1 + C * w1) (e2 : A * u2 = B * v2 + C * w2) (hu : LP u1 u2) (hv : LP v1 v2) (hw : LP w1 w2) (hB : 0 ≤ B) (hC : 0 < C) : 0 < A := by
  have h0 := lex_nn e1 e2 hu hv hw hB (Int.le_of_lt hC)
  rcases (by omega : 0 < A ∨ A = 0) with h | h
  · exact h
  exfalso
  rw [h, Int.zero_mul] at e1 e2
  have b1 : 0 ≤ B * v1 := by
    refine Int.mul_nonneg hB ?_
    rcases hv with h | h <;> omega
  have c1 : 0 ≤ C * w1 := by
    refine Int.mul_nonneg (Int.le_of_lt hC) ?_
    rcases hw with h | h <;> omega
  rcases hw with hw | ⟨hw, hw'⟩
  · have := Int.mul_pos hC hw
    omega
  · have c2 := Int.mul_pos hC hw'
    rcases hv with hv | ⟨hv, hv'⟩
    · have b0 : B * v1 = 0 := by omega
      rcases Int.mul_eq_zero.mp b0 with z | z
      · rw [z, Int.zero_mul] at e2; omega
      · omega
    · have := Int.mul_nonneg hB (Int.le_of_lt hv')
      omega
theorem fourX (a b c d : Q3) : dt a b d * dX b c = dt b c d * dX a b + dt a b c * dX b d := by unfold dt dX det3 lnA lnB lnC; grind
theorem fourY (a b c d : Q3) : dt a b d * dY b c = dt b c d * dY a b + dt a b c * dY b d := by unfold dt dY det3 lnA lnB lnC; grind
theorem penX (b c p q : Q3) : dt b p q * dX b c = dt b c q * dX b p + -dt b c p * dX b q := by unfold dt dX det3 lnA lnB lnC; grind
theorem penY (b c p q : Q3) : dt b p q * dY b c = dt b c q * dY b p + -dt b c p * dY b q := by unfold dt dY det3 lnA lnB lnC; grind
theorem thiX (a b p q : Q3) : dt b p q * dX a b = dt a b q * dX b p + dt a b p * dX q b := by unfold dt dX det3 lnA lnB lnC; grind
theorem thiY (a b p q : Q3) : dt b p q * dY a b = dt a b q * dY b p + dt a b p * dY q b := by unfold dt dY det3 lnA lnB lnC; grind
theorem dt_swap (a b c : Q3) : dt b a c = -dt a b c := by unfold dt det3 lnA lnB lnC; grind
theorem dt_rev (a b c : Q3) : dt c b a = -dt a b c := by unfold dt det3 lnA lnB lnC; grind
theorem dt_rot (a b c : Q3) : dt b c a = dt a b c := by unfold dt det3 lnA lnB lnC; grind
theorem dt_aba (a b : Q3) : dt a b a = 0 := by unfold dt det3 lnA lnB lnC; grind
theorem dt_abb (a b : Q3) : dt a b b = 0 := by unfold dt det3 lnA lnB lnC; grind
theorem dX_swap (a b : Q3) : dX b a = -dX a b := by unfold dX; grind
theorem dY_swap (a b : Q3) : dY b a = -dY a b := by unfold dY; grind
theorem sc {s A B C u v w : Int} (e : A * u = B * v + C * w) : A * (s * u) = B * (s * v) + C * (s * w) := by
  have : A * (s * u) = s * (A * u) := by grind
  rw [this, e]
  grind
theorem lt_swap {s : Int} {a b : Q3} : Lt (-s) a b ↔ Lt s b a := by
  unfold Lt
  rw [dX_swap a b, dY_swap a b, Int.neg_mul, Int.neg_mul, Int.mul_neg, Int.mul_neg]
theorem lt_asym {s : Int} {a b : Q3} (h : Lt s a b) (h' : Lt s b a) : False := by
  unfold Lt at *
  rw [dX_swap, dY_swap, Int.mul_neg, Int.mul_neg] at h'
  exact lp_no h h'
theorem lt_irr {s : Int} {a : Q3} (h : Lt s a a) : False := lt_asym h h
theorem pencil {s : Int} {b c p q : Q3} (hc : Lt s b c) (hp : Lt s b p) (hq : Lt s b q) (h1 : 0 ≤ dt b c q) (h2 : dt b c p ≤ 0) : 0 ≤ dt b p q :=
  lex_nn (sc (s := s) (penX b c p q)) (sc (s := s) (penY b c p q)) hc hp hq h1 (by omega)
theorem mid {s : Int} {a b p q : Q3} (ha : Lt s a b) (hp : Lt s b p) (hq : Lt s q b) (h1 : 0 ≤ dt a b q) (h2 : 0 ≤ dt a b p) : 0 ≤ dt b p q :=
  lex_nn (sc (s := s) (thiX a b p q)) (sc (s := s) (thiY a b p q)) ha hp hq h1 h2
theorem onw {s : Int} {a b c d : Q3} (h1 : Lt s a b) (h2 : Lt s b c) (h3 : Lt s b d) (hb : 0 < dt b c d) (ha : 0 < dt a b c) : 0 < dt a b d :=
  lex_pos (sc (s := s) (fourX a b c d)) (sc (s := s) (fourY a b c d)) h2 h1 h3 (Int.le_of_lt hb) ha
theorem flat {s : Int} {os : List Q3} {a l : Q3} (h : Lt s l a) (z : ∀ q, q ∈ os → dt l a q = 0) : ∀ p q, p ∈ os → q ∈ os → dt l p q = 0 := fun p q hp hq => by
  have e1 := sc (s := s) (penX l a p q)
  have e2 := sc (s := s) (penY l a p q)
  rw [z p hp, z q hq, Int.neg_zero, Int.zero_mul, Int.zero_mul, Int.add_zero] at e1 e2
  rcases h with h | ⟨_, h⟩
  · rcases Int.mul_eq_zero.mp e1 with e | e
    · exact e
    · omega
  · rcases Int.mul_eq_zero.mp e2 with e | e
    · exact e
    · omega
theorem joint {s : Int} {os : List Q3} {a l c : Q3} (ha : Lt s a l) (hc : Lt s c l) (ea : ∀ q, q ∈ os → 0 ≤ dt a l q) (ec : ∀ q, q ∈ os → 0 ≤ dt l c q) (mc : c ∈ os) : 0 < dt a l c ∨ ∀ p q, p ∈ os → q ∈ os → dt l p q = 0 := by
  have h0 := ea c mc
  rcases (by omega : 0 < dt a l c ∨ dt a l c = 0) with h | h
  · exact .inl h
  refine .inr (flat (s := -s) (a := a) (lt_swap.mpr ha) fun q hq => ?_)
  have e1 := sc (s := s) (thiX a l c q)
  have e2 := sc (s := s) (thiY a l c q)
  have h1 := ea q hq
  have h2 := ec q hq
  have sw : dt l a q = -dt a l q := dt_swap a l q
  rw [h] at e1 e2
  have k : 0 ≤ dt l a q := by
    have x1 : dt l a q * (s * dX c l) = dt l c q * (s * dX a l) + 0 * (s * dX a l) := by
      rw [e1, sw, dX_swap l c]; grind
    have x2 : dt l a q * (s * dY c l) = dt l c q * (s * dY a l) + 0 * (s * dY a l) := by
      rw [e2, sw, dY_swap l c]; grind
    exact lex_nn x1 x2 hc ha ha h2 (Int.le_refl _)
  omega
def popW (p : Q3) : List Q3 → List Q3
  | b :: a :: r => if dt a b p ≤ 0 then popW p (a :: r) else b :: a :: r
  | l => l
def half (os : List Q3) : List Q3 := os.foldl (fun st p => p :: popW p st) []
def Ch (s : Int) (seen : List Q3) : List Q3 → Prop
  | b :: a :: r => Lt s a b ∧ (∀ q, q ∈ seen → 0 ≤ dt a b q) ∧ (∀ z, r.head? = some z → 0 < dt z a b) ∧ Ch s seen (a :: r)
  | _ => True
theorem ch_more {s : Int} {seen : List Q3} {p : Q3} (hs : ∀ q, q ∈ seen → Lt s q p) : ∀ (r : List Q3) (a b : Q3), Ch s seen (b :: a :: r) → (∀ c, c ∈ b :: a :: r → c ∈ seen) → 0 < dt a b p → Ch s (seen ++ [p]) (b :: a :: r)
  | [], a, b, ⟨h1, h2, h3, _⟩, hm, hp => ⟨h1, fun q hq => (List.mem_append.mp hq).elim (h2 q) fun z => by rw [List.mem_singleton.mp z]; omega, h3, trivial⟩
  | z :: r, a, b, ⟨h1, h2, h3, h4⟩, hm, hp => by
    refine ⟨h1, fun q hq => (List.mem_append.mp hq).elim (h2 q) fun z => by rw [List.mem_singleton.mp z]; omega, h3, ?_⟩
    have hz := h3 z rfl
    refine ch_more hs r z a h4 (fun c hc => hm c (List.mem_cons_of_mem _ hc)) ?_
    exact onw h4.1 h1 (hs a (hm a (by simp))) hp hz
theorem ch_push {s : Int} {seen : List Q3} {p : Q3} (hs : ∀ q, q ∈ seen → Lt s q p) (tri : ∀ a b, a ∈ seen → b ∈ seen → a = b ∨ Lt s a b ∨ Lt s b a) : ∀ st : List Q3, Ch s seen st → (∀ c, c ∈ st → c ∈ seen) → (∀ f, st.getLast? = some f → ∀ q, q ∈ seen → q = f ∨ Lt s f q) → (∀ b, st.head? = some b → ∀ q, q ∈ seen → Lt s b q → 0 ≤ dt b p q) → Ch s (seen ++ [p]) (p :: popW p st)
  | [], _, _, _, _ => trivial
  | [b], _, hm, hf, hU => by
    refine ⟨hs b (hm b (by simp)), fun q hq => ?_, fun z e => (by cases e), trivial⟩
    rcases List.mem_append.mp hq with hq | hq
    · rcases hf b rfl q hq with e | e
      · rw [e, dt_aba]; exact Int.le_refl _
      · exact hU b rfl q hq e
    · rw [List.mem_singleton.mp hq, dt_abb]; exact Int.le_refl _
  | b :: a :: r, ⟨h1, h2, h3, h4⟩, hm, hf, hU => by
    have mb := hm b (by simp)
    have ma := hm a (by simp)
    unfold popW
    by_cases c : dt a b p ≤ 0
    · rw [if_pos c]
      refine ch_push hs tri (a :: r) h4 (fun c hc => hm c (List.mem_cons_of_mem _ hc)) (fun f e => hf f (by rw [List.getLast?_cons_cons]; exact e)) fun a' e q hq hl => ?_
      cases e
      exact pencil h1 (hs a ma) hl (h2 q hq) c
    · rw [if_neg c]
      refine ⟨hs b mb, fun q hq => ?_, fun z e => ?_, ch_more hs r a b ⟨h1, h2, h3, h4⟩ hm (by omega)⟩
      · rcases List.mem_append.mp hq with hq | hq
        · rcases tri b q mb hq with e | e | e
          · rw [e, dt_aba]; exact Int.le_refl _
          · exact hU b rfl q hq e
          · exact mid h1 (hs b mb) e (h2 q hq) (by omega)
        · rw [List.mem_singleton.mp hq, dt_abb]; exact Int.le_refl _
      · cases e
        omega
theorem popW_sub (p : Q3) : ∀ st, (popW p st).Sublist st
  | [] => List.Sublist.refl _
  | [b] => List.Sublist.refl _
  | b :: a :: r => by
    unfold popW
    by_cases c : dt a b p ≤ 0
    · rw [if_pos c]; exact (popW_sub p (a :: r)).cons b
    · rw [if_neg c]; exact List.Sublist.refl _
theorem popW_last (p : Q3) : ∀ st, (popW p st).getLast? = st.getLast?
  | [] => rfl
  | [b] => rfl
  | b :: a :: r => by
    unfold popW
    by_cases c : dt a b p ≤ 0
    · rw [if_pos c, popW_last p (a :: r), List.getLast?_cons_cons]
    · rw [if_neg c]
structure Good (s : Int) (seen st : List Q3) : Prop where
  ch : Ch s seen st
  sub : st.Sublist seen.reverse
  top : st.head? = seen.getLast?
  bot : st.getLast? = seen.head?
theorem pw_tri {s : Int} : ∀ {l : List Q3}, l.Pairwise (Lt s) → ∀ a b, a ∈ l → b ∈ l → a = b ∨ Lt s a b ∨ Lt s b a
  | [], _, a, _, ha, _ => by cases ha
  | c :: l, h, a, b, ha, hb => by
    obtain ⟨h1, h2⟩ := List.pairwise_cons.mp h
    rcases List.mem_cons.mp ha with ea | ha
    · rcases List.mem_cons.mp hb with eb | hb
      · exact .inl (ea.trans eb.symm)
      · exact .inr (.inl (ea ▸ h1 b hb))
    · rcases List.mem_cons.mp hb with eb | hb
      · exact .inr (.inr (eb ▸ h1 a ha))
      · exact pw_tri h2 a b ha hb
theorem pw_first {s : Int} {l : List Q3} (h : l.Pairwise (Lt s)) {f : Q3} (e : l.head? = some f) : ∀ q, q ∈ l → q = f ∨ Lt s f q := fun q hq => by
  cases l with
  | nil => cases e
  | cons c l =>
    cases e
    rcases List.mem_cons.mp hq with e | hq
    · exact .inl e
    · exact .inr ((List.pairwise_cons.mp h).1 q hq)
theorem pw_last {s : Int} {l : List Q3} (h : l.Pairwise (Lt s)) {f : Q3} (e : l.getLast? = some f) : ∀ q, q ∈ l → q = f ∨ Lt s q f := fun q hq => by
  have h' : l.reverse.Pairwise (Lt (-s)) := List.pairwise_reverse.mpr (h.imp fun z => lt_swap.mpr z)
  have e' : l.reverse.head? = some f := by rw [List.head?_reverse]; exact e
  rcases pw_first h' e' q (List.mem_reverse.mpr hq) with z | z
  · exact .inl z
  · exact .inr (lt_swap.mp z)
theorem good_push {s : Int} {seen st : List Q3} {p : Q3} (g : Good s seen st) (pw : (seen ++ [p]).Pairwise (Lt s)) : Good s (seen ++ [p]) (p :: popW p st) := by
  obtain ⟨p1, _, p3⟩ := List.pairwise_append.mp pw
  have hs : ∀ q, q ∈ seen → Lt s q p := fun q hq => p3 q hq p (by simp)
  refine ⟨ch_push hs (pw_tri p1) st g.ch (fun c hc => List.mem_reverse.mp (g.sub.subset hc)) (fun f e q hq => pw_first p1 (g.bot.symm.trans e) q hq) (fun b e q hq hl => ?_), ?_, ?_, ?_⟩
  · rcases pw_last p1 (g.top.symm.trans e) q hq with z | z
    · rw [z, dt_aba]; exact Int.le_refl _
    · exact (lt_asym hl z).elim
  · rw [List.reverse_append]
    exact ((popW_sub p st).trans g.sub).cons₂ p
  · simp
  · cases e : seen with
    | nil =>
      have := g.sub
      rw [e] at this
      have : st = [] := List.sublist_nil.mp this
      rw [this]
      rfl
    | cons c l =>
      have hb := g.bot
      rw [e] at hb
      have ne : popW p st ≠ [] := fun z => by
        have := popW_last p st
        rw [z, hb] at this
        cases this
      obtain ⟨d, t, ed⟩ : ∃ d t, popW p st = d :: t := by
        cases h : popW p st with
        | nil => exact absurd h ne
        | cons d t => exact ⟨d, t, rfl⟩
      rw [ed, List.getLast?_cons_cons, ← ed, popW_last, hb]
      rfl
theorem good_fold {s : Int} : ∀ (os seen st : List Q3), Good s seen st → (seen ++ os).Pairwise (Lt s) → Good s (seen ++ os) (os.foldl (fun st p => p :: popW p st) st)
  | [], seen, st, g, _ => by rw [List.append_nil]; exact g
  | p :: os, seen, st, g, pw => by
    have e : seen ++ p :: os = (seen ++ [p]) ++ os := by simp
    rw [e] at pw ⊢
    exact good_fold os (seen ++ [p]) _ (good_push g (List.pairwise_append.mp pw).1) pw
theorem good_half {s : Int} {os : List Q3} (pw : os.Pairwise (Lt s)) : Good s os (half os) := good_fold os [] [] ⟨trivial, List.Sublist.refl _, rfl, rfl⟩ pw
end My
namespace My
theorem ch_at {s : Int} {seen : List Q3} : ∀ (i : Nat) (st : List Q3), Ch s seen st → ∀ a b, st[i]? = some b → st[i + 1]? = some a → (Lt s a b ∧ ∀ q, q ∈ seen → 0 ≤ dt a b q) ∧ ∀ z, st[i + 2]? = some z → 0 < dt z a b
  | 0, b' :: a' :: r, ⟨h1, h2, h3, _⟩, a, b, e1, e2 => by
    cases e1; cases e2
    refine ⟨⟨h1, h2⟩, fun z e => h3 z ?_⟩
    rw [List.head?_eq_getElem?]
    simpa using e
  | i + 1, b' :: a' :: r, ⟨_, _, _, h4⟩, a, b, e1, e2 => by
    have := ch_at i (a' :: r) h4 a b (by simpa using e1) (by simpa using e2)
    refine ⟨this.1, fun z e => this.2 z (by simpa using e)⟩
  | 0, [], _, a, b, e1, e2 => by cases e1
  | 0, [c], _, a, b, e1, e2 => by simp at e2
  | i + 1, [], _, a, b, e1, e2 => by cases e1
  | i + 1, [c], _, a, b, e1, e2 => by simp at e1
structure Chn (s : Int) (os L : List Q3) (f l : Q3) : Prop where
  sub : L.Sublist os
  fst : L[0]? = some f
  lst : L[L.length - 1]? = some l
  edge : ∀ i a b, L[i]? = some a → L[i + 1]? = some b → Lt s a b ∧ ∀ q, q ∈ os → 0 ≤ dt a b q
  tri : ∀ i a b c, L[i]? = some a → L[i + 1]? = some b → L[i + 2]? = some c → 0 < dt a b c
theorem rev_at {α : Type} {st : List α} {i : Nat} {a : α} (h : st.reverse[i]? = some a) : i < st.length ∧ st[st.length - 1 - i]? = some a := by
  have hi : i < st.reverse.length := (List.getElem?_eq_some_iff.mp h).1
  rw [List.length_reverse] at hi
  rw [List.getElem?_reverse hi] at h
  exact ⟨hi, h⟩
theorem chn_of {s : Int} {os : List Q3} {f l : Q3} (pw : os.Pairwise (Lt s)) (hf : os.head? = some f) (hl : os.getLast? = some l) : Chn s os (half os).reverse f l := by
  obtain ⟨ch, sub, top, bot⟩ := good_half pw
  generalize half os = st at *
  refine ⟨?_, ?_, ?_, fun i a b e1 e2 => ?_, fun i a b c e1 e2 e3 => ?_⟩
  · have := sub.reverse
    rw [List.reverse_reverse] at this
    exact this
  · rw [← List.head?_eq_getElem?, List.head?_reverse, bot, hf]
  · rw [← List.getLast?_eq_getElem?, List.getLast?_reverse, top, hl]
  · obtain ⟨l1, e1⟩ := rev_at e1
    obtain ⟨l2, e2⟩ := rev_at e2
    exact (ch_at (st.length - 1 - (i + 1)) st ch a b e2 (by rw [show st.length - 1 - (i + 1) + 1 = st.length - 1 - i by omega]; exact e1)).1
  · obtain ⟨l1, e1⟩ := rev_at e1
    obtain ⟨l2, e2⟩ := rev_at e2
    obtain ⟨l3, e3⟩ := rev_at e3
    exact (ch_at (st.length - 1 - (i + 2)) st ch b c e3 (by rw [show st.length - 1 - (i + 2) + 1 = st.length - 1 - (i + 1) by omega]; exact e2)).2 a (by rw [show st.length - 1 - (i + 2) + 2 = st.length - 1 - i by omega]; exact e1)
def hullOf (os : List Q3) : List Q3 := (half os).reverse.dropLast ++ (half os.reverse).reverse.dropLast
def hullF (os : List Q3) : List Q3 := if os.length < 3 then os else hullOf os
structure Ring (os F : List Q3) : Prop where
  edge : ∀ k a b, k < F.length → F[(k + F.length - 1) % F.length]? = some a → F[k]? = some b → ∀ q, q ∈ os → 0 ≤ dt a b q
  tri : ∀ k a b c, k < F.length → F[(k + F.length - 1) % F.length]? = some a → F[k]? = some b → F[(k + 1) % F.length]? = some c → 0 < dt a b c
section
variable {os L U : List Q3} {f l : Q3}
theorem two_le {s : Int} (c : Chn s os L f l) (ne : f ≠ l) : 2 ≤ L.length := by
  have h0 := (List.getElem?_eq_some_iff.mp c.fst).1
  rcases (by omega : L.length = 1 ∨ 2 ≤ L.length) with h | h
  · have := c.lst
    rw [h, c.fst] at this
    exact absurd (Option.some.inj this) ne
  · exact h
theorem flat_two {s : Int} (c : Chn s os L f l) (ne : f ≠ l) (z : ∀ p q, p ∈ os → q ∈ os → dt f p q = 0) : L = [f, l] := by
  have h2 := two_le c ne
  have h3 : L.length = 2 := by
    rcases (by omega : L.length = 2 ∨ 2 < L.length) with h | h
    · exact h
    exfalso
    have := c.tri 0 f L[1] L[2] c.fst (List.getElem?_eq_getElem (by omega)) (List.getElem?_eq_getElem (by omega))
    rw [z _ _ (c.sub.subset (List.getElem_mem _)) (c.sub.subset (List.getElem_mem _))] at this
    omega
  have e0 := c.fst
  have e1 := c.lst
  rw [h3] at e1
  match L, h3, e0, e1 with
  | [a, b], _, e0, e1 => cases e0; cases e1; rfl
theorem ring_of (pw : os.Pairwise (Lt 1)) (cL : Chn 1 os L f l) (cU : Chn (-1) os.reverse U l f) (ne : f ≠ l) (nz : ¬ ∀ q, q ∈ os → dt f l q = 0) :
    2 < (L.dropLast ++ U.dropLast).length ∧ (L.dropLast ++ U.dropLast)[0]? = some f ∧ (L.dropLast ++ U.dropLast).Nodup ∧ Ring os (L.dropLast ++ U.dropLast) := by
  have hL := two_le cL ne
  have hU := two_le cU (Ne.symm ne)
  have mU : ∀ i b, U[i]? = some b → b ∈ os := fun i b e => List.mem_reverse.mp (cU.sub.subset (List.mem_of_getElem? e))
  have mL : ∀ i b, L[i]? = some b → b ∈ os := fun i b e => cL.sub.subset (List.mem_of_getElem? e)
  have eU : ∀ i a b, U[i]? = some a → U[i + 1]? = some b → Lt 1 b a ∧ ∀ q, q ∈ os → 0 ≤ dt a b q := fun i a b e1 e2 => by
    obtain ⟨h1, h2⟩ := cU.edge i a b e1 e2
    exact ⟨lt_swap.mp h1, fun q hq => h2 q (List.mem_reverse.mpr hq)⟩
  have fm : f ∈ os := mL 0 f cL.fst
  have lm : l ∈ os := mL _ l cL.lst
  have n1 : ¬ ∀ p q, p ∈ os → q ∈ os → dt l p q = 0 := fun z => nz fun q hq => by
    have := z f q fm hq
    rw [dt_swap] at this
    omega
  have n2 : ¬ ∀ p q, p ∈ os → q ∈ os → dt f p q = 0 := fun z => nz fun q hq => z l q lm hq
  -- the walk round
  let W : Nat → Option Q3 := fun i => if i < L.length - 1 then L[i]? else U[i - (L.length - 1)]?
  have WL : ∀ i, i < L.length → W i = L[i]? := fun i hi => by
    show (if i < L.length - 1 then L[i]? else U[i - (L.length - 1)]?) = _
    by_cases h : i < L.length - 1
    · rw [if_pos h]
    · rw [if_neg h, show i = L.length - 1 by omega, cL.lst, Nat.sub_self, cU.fst]
  have WU : ∀ i, L.length - 1 ≤ i → W i = U[i - (L.length - 1)]? := fun i hi => if_neg (by omega)
  have lenF : (L.dropLast ++ U.dropLast).length = (L.length - 1) + (U.length - 1) := by simp
  have FW : ∀ i, i < (L.dropLast ++ U.dropLast).length → (L.dropLast ++ U.dropLast)[i]? = W i := fun i hi => by
    rw [lenF] at hi
    by_cases h : i < L.length - 1
    · rw [List.getElem?_append_left (by simpa using h), WL i (by omega), List.getElem?_dropLast, if_pos h]
    · rw [List.getElem?_append_right (by simp; omega), WU i (by omega), List.getElem?_dropLast, List.length_dropLast, if_pos (by omega)]
  have WN : W ((L.length - 1) + (U.length - 1)) = some f := by
    rw [WU _ (by omega), show (L.length - 1) + (U.length - 1) - (L.length - 1) = U.length - 1 by omega, cU.lst]
  have W0 : W 0 = some f := by rw [WL 0 (by omega), cL.fst]
  have WE : ∀ i a b, W i = some a → W (i + 1) = some b → ∀ q, q ∈ os → 0 ≤ dt a b q := fun i a b e1 e2 => by
    by_cases h : i + 1 < L.length
    · rw [WL _ (by omega)] at e1
      rw [WL _ h] at e2
      exact (cL.edge i a b e1 e2).2
    · rw [WU _ (by omega)] at e1
      rw [WU _ (by omega), show i + 1 - (L.length - 1) = i - (L.length - 1) + 1 by omega] at e2
      exact (eU _ a b e1 e2).2
  have WT : ∀ i a b c, W i = some a → W (i + 1) = some b → W (i + 2) = some c → 0 < dt a b c := fun i a b c e1 e2 e3 => by
    by_cases h : i + 2 < L.length
    · rw [WL _ (by omega)] at e1 e2
      rw [WL _ h] at e3
      exact cL.tri i a b c e1 e2 e3
    · by_cases h' : L.length - 1 ≤ i
      · rw [WU _ (by omega)] at e1
        rw [WU _ (by omega), show i + 1 - (L.length - 1) = i - (L.length - 1) + 1 by omega] at e2
        rw [WU _ (by omega), show i + 2 - (L.length - 1) = i - (L.length - 1) + 2 by omega] at e3
        exact cU.tri _ a b c e1 e2 e3
      · have ei : i + 1 = L.length - 1 := by omega
        have e2' := e2
        rw [WL _ (by omega)] at e1 e2
        have eb : b = l := by
          have := cL.lst
          rw [← ei, e2] at this
          exact Option.some.inj this
        rw [WU _ (by omega), show i + 2 - (L.length - 1) = 0 + 1 by omega] at e3
        obtain ⟨h1, h2⟩ := cL.edge i a b e1 e2
        obtain ⟨h3, h4⟩ := eU 0 l c cU.fst e3
        rw [eb] at h1 h2 ⊢
        rcases joint h1 h3 h2 h4 (mU _ c e3) with z | z
        · exact z
        · exact absurd z n1
  have WJ : ∀ a c, W ((L.length - 1) + (U.length - 1) - 1) = some a → W 1 = some c → 0 < dt a f c ∧ ∀ q, q ∈ os → 0 ≤ dt a f q := fun a c e1 e2 => by
    rw [WL 1 (by omega)] at e2
    rw [WU _ (by omega), show (L.length - 1) + (U.length - 1) - 1 - (L.length - 1) = U.length - 2 by omega] at e1
    have eu := eU (U.length - 2) a f e1 (by rw [show U.length - 2 + 1 = U.length - 1 by omega]; exact cU.lst)
    have el := cL.edge 0 f c cL.fst e2
    refine ⟨?_, eu.2⟩
    rcases joint (s := -1) (lt_swap.mpr eu.1) (lt_swap.mpr el.1) eu.2 el.2 (mL 1 c e2) with z | z
    · exact z
    · exact absurd z n2
  have N2 : 2 < (L.length - 1) + (U.length - 1) := by
    rcases (by omega : 2 < (L.length - 1) + (U.length - 1) ∨ (L.length = 2 ∧ U.length = 2)) with h | ⟨h1, h2⟩
    · exact h
    exfalso
    refine nz fun q hq => ?_
    have a1 := (cL.edge 0 f l cL.fst (by have := cL.lst; rw [h1] at this; exact this)).2 q hq
    have a2 := (eU 0 l f cU.fst (by have := cU.lst; rw [h2] at this; exact this)).2 q hq
    rw [dt_swap] at a2
    omega
  refine ⟨by rw [lenF]; exact N2, by rw [FW 0 (by rw [lenF]; omega), W0], ?_, ⟨fun k a b hk e1 e2 => ?_, fun k a b c hk e1 e2 e3 => ?_⟩⟩
  · have pU : os.reverse.Pairwise (Lt (-1)) := List.pairwise_reverse.mpr (pw.imp fun z => lt_swap.mpr z)
    have nL : L.Nodup := (pw.sublist cL.sub).imp fun z e => by rw [e] at z; exact lt_irr z
    have nU : U.Nodup := (pU.sublist cU.sub).imp fun z e => by rw [e] at z; exact lt_irr z
    have pL := pw.sublist cL.sub
    have pU' := pU.sublist cU.sub
    refine List.nodup_append.mpr ⟨nL.sublist (List.dropLast_sublist _), nU.sublist (List.dropLast_sublist _), fun a ha b hb e => ?_⟩
    subst e
    obtain ⟨i, hi⟩ := List.mem_iff_getElem?.mp ha
    obtain ⟨j, hj⟩ := List.mem_iff_getElem?.mp hb
    rw [List.getElem?_dropLast] at hi hj
    have li : i < L.length - 1 := by
      refine Nat.not_le.mp fun z => ?_
      rw [if_neg (by omega)] at hi
      cases hi
    have lj : j < U.length - 1 := by
      refine Nat.not_le.mp fun z => ?_
      rw [if_neg (by omega)] at hj
      cases hj
    rw [if_pos li] at hi
    rw [if_pos lj] at hj
    have lt_L : ∀ i j a b, i < j → L[i]? = some a → L[j]? = some b → Lt 1 a b := fun i j a b h e1 e2 => by
      obtain ⟨q1, rfl⟩ := List.getElem?_eq_some_iff.mp e1
      obtain ⟨q2, rfl⟩ := List.getElem?_eq_some_iff.mp e2
      exact List.pairwise_iff_getElem.mp pL i j q1 q2 h
    have lt_U : ∀ i j a b, i < j → U[i]? = some a → U[j]? = some b → Lt 1 b a := fun i j a b h e1 e2 => by
      obtain ⟨q1, rfl⟩ := List.getElem?_eq_some_iff.mp e1
      obtain ⟨q2, rfl⟩ := List.getElem?_eq_some_iff.mp e2
      exact lt_swap.mp (List.pairwise_iff_getElem.mp pU' i j q1 q2 h)
    have al : Lt 1 a l := lt_L i (L.length - 1) a l li hi cL.lst
    have af : Lt 1 f a := lt_U j (U.length - 1) a f lj hj cU.lst
    have i0 : i ≠ 0 := fun z => by
      rw [z, cL.fst] at hi
      cases hi
      exact lt_irr af
    have j0 : j ≠ 0 := fun z => by
      rw [z, cU.fst] at hj
      cases hj
      exact lt_irr al
    obtain ⟨i, rfl⟩ : ∃ k, i = k + 1 := ⟨i - 1, by omega⟩
    obtain ⟨j, rfl⟩ : ∃ k, j = k + 1 := ⟨j - 1, by omega⟩
    have h1 : L[i]? = some L[i] := List.getElem?_eq_getElem (by omega)
    have h2 : L[i + 2]? = some L[i + 2] := List.getElem?_eq_getElem (by omega)
    have h3 : U[j]? = some U[j] := List.getElem?_eq_getElem (by omega)
    have T := cL.tri i _ a _ h1 hi h2
    have e1 := (cL.edge i _ a h1 hi).1
    have e2 := (cL.edge (i + 1) a _ hi h2).1
    have e3 := cU.edge j _ a h3 hj
    have m1 := mL _ _ h1
    have m2 := mL _ _ h2
    have := mid (s := -1) e3.1 (lt_swap.mpr e1) (lt_swap.mpr e2) (e3.2 _ (List.mem_reverse.mpr m2)) (e3.2 _ (List.mem_reverse.mpr m1))
    have r1 : dt a L[i] L[i + 2] = dt L[i + 2] a L[i] := dt_rot _ _ _
    have r2 : dt L[i + 2] a L[i] = -dt L[i] a L[i + 2] := dt_rev _ _ _
    omega
  · rw [lenF] at hk e1
    rw [FW k (by rw [lenF]; exact hk)] at e2
    rw [FW _ (by rw [lenF]; exact Nat.mod_lt _ (by omega))] at e1
    cases k with
    | zero =>
      rw [W0] at e2
      cases e2
      rw [Nat.mod_eq_of_lt (by omega), Nat.zero_add] at e1
      have hc : W 1 = some L[1] := by rw [WL 1 (by omega)]; exact List.getElem?_eq_getElem (by omega)
      exact (WJ a _ e1 hc).2
    | succ k =>
      rw [show k + 1 + (L.length - 1 + (U.length - 1)) - 1 = k + (L.length - 1 + (U.length - 1)) by omega, Nat.add_mod_right, Nat.mod_eq_of_lt (by omega)] at e1
      exact WE k a b e1 e2
  · rw [lenF] at hk e1 e3
    rw [FW k (by rw [lenF]; exact hk)] at e2
    rw [FW _ (by rw [lenF]; exact Nat.mod_lt _ (by omega))] at e1 e3
    cases k with
    | zero =>
      rw [W0] at e2
      cases e2
      rw [Nat.mod_eq_of_lt (by omega), Nat.zero_add] at e1
      rw [Nat.mod_eq_of_lt (by omega), Nat.zero_add] at e3
      exact (WJ a c e1 e3).1
    | succ k =>
      rw [show k + 1 + (L.length - 1 + (U.length - 1)) - 1 = k + (L.length - 1 + (U.length - 1)) by omega, Nat.add_mod_right, Nat.mod_eq_of_lt (by omega)] at e1
      refine WT k a b c e1 e2 ?_
      by_cases h : k + 2 < (L.length - 1) + (U.length - 1)
      · rw [Nat.mod_eq_of_lt (by omega)] at e3
        exact e3
      · have ek : k + 2 = (L.length - 1) + (U.length - 1) := by omega
        rw [show k + 1 + 1 = (L.length - 1) + (U.length - 1) by omega, Nat.mod_self, W0] at e3
        rw [ek, WN]
        exact e3
end
theorem hull_flat {os : List Q3} {f l : Q3} (pw : os.Pairwise (Lt 1)) (hf : os.head? = some f) (hl : os.getLast? = some l) (ne : f ≠ l) (z : ∀ q, q ∈ os → dt f l q = 0) : hullF os = [f, l] := by
  have fm : f ∈ os := List.mem_of_head? hf
  have lm : l ∈ os := List.mem_of_getLast? hl
  have fl : Lt 1 f l := (pw_first pw hf l lm).elim (fun e => absurd e.symm ne) id
  unfold hullF
  by_cases c : os.length < 3
  · rw [if_pos c]
    match os, c, hf, hl, fm with
    | [a], _, hf, hl, _ => cases hf; cases hl; exact absurd rfl ne
    | [a, b], _, hf, hl, _ => cases hf; cases hl; rfl
  · rw [if_neg c]
    have pU : os.reverse.Pairwise (Lt (-1)) := List.pairwise_reverse.mpr (pw.imp fun z => lt_swap.mpr z)
    have cL := chn_of pw hf hl
    have cU := chn_of (s := -1) pU (by rw [List.head?_reverse]; exact hl) (by rw [List.getLast?_reverse]; exact hf)
    have zf := flat fl z
    have zl := flat (s := -1) (a := f) (l := l) (lt_swap.mpr fl) fun q hq => by rw [dt_swap, z q hq]; rfl
    unfold hullOf
    rw [flat_two cL ne zf, flat_two cU (Ne.symm ne) fun p q hp hq => zl p q (List.mem_reverse.mp hp) (List.mem_reverse.mp hq)]
    rfl
theorem hull_ring {os : List Q3} {f l : Q3} (pw : os.Pairwise (Lt 1)) (hf : os.head? = some f) (hl : os.getLast? = some l) (ne : f ≠ l) (nz : ¬ ∀ q, q ∈ os → dt f l q = 0) : 2 < (hullF os).length ∧ (hullF os)[0]? = some f ∧ (hullF os).Nodup ∧ Ring os (hullF os) := by
  have c : ¬ os.length < 3 := fun c => nz fun q hq => by
    match os, c, hf, hl, hq with
    | [a], _, hf, hl, _ => cases hf; cases hl; exact absurd rfl ne
    | [a, b], _, hf, hl, hq =>
      cases hf; cases hl
      rcases List.mem_cons.mp hq with e | hq
      · rw [e, dt_aba]
      · rw [List.mem_singleton.mp hq]; exact dt_abb _ _
  have pU : os.reverse.Pairwise (Lt (-1)) := List.pairwise_reverse.mpr (pw.imp fun z => lt_swap.mpr z)
  unfold hullF
  rw [if_neg c]
  exact ring_of pw (chn_of pw hf hl) (chn_of (s := -1) pU (by rw [List.head?_reverse]; exact hl) (by rw [List.getLast?_reverse]; exact hf)) ne nz
theorem half_sub {s : Int} {os : List Q3} (pw : os.Pairwise (Lt s)) : ∀ q, q ∈ half os → q ∈ os := fun q hq => List.mem_reverse.mp ((good_half pw).sub.subset hq)
theorem hull_sub {os : List Q3} (pw : os.Pairwise (Lt 1)) : ∀ q, q ∈ hullF os → q ∈ os := fun q hq => by
  unfold hullF at hq
  by_cases c : os.length < 3
  · rw [if_pos c] at hq; exact hq
  · rw [if_neg c] at hq
    have pU : os.reverse.Pairwise (Lt (-1)) := List.pairwise_reverse.mpr (pw.imp fun z => lt_swap.mpr z)
    rcases List.mem_append.mp hq with h | h
    · exact half_sub pw q (List.mem_reverse.mp (List.dropLast_subset _ h))
    · exact List.mem_reverse.mp (half_sub pU q (List.mem_reverse.mp (List.dropLast_subset _ h)))
theorem fl_lt {a b c d G : Int} (hb : 0 < b) (hd : 0 < d) (h : a * d < c * b) (hG : b * d ≤ G) : a * G / b < c * G / d := by
  have g0 : 0 ≤ G := Int.le_trans (Int.le_of_lt (Int.mul_pos hb hd)) hG
  have h0 : a * G / b * b ≤ a * G := Int.ediv_mul_le _ (by omega)
  have h1 := Int.mul_le_mul_of_nonneg_right h0 (Int.le_of_lt hd)
  have h2 : G * (a * d + 1) ≤ G * (c * b) := Int.mul_le_mul_of_nonneg_left (by omega) g0
  refine Int.lt_of_lt_of_le (Int.lt_succ _) (Int.le_ediv_of_mul_le hd (Int.le_of_mul_le_mul_right ?_ hb))
  generalize a * G / b = A at *
  calc (A + 1) * d * b = A * b * d + b * d := by grind
    _ ≤ a * G * d + G := Int.add_le_add h1 hG
    _ = G * (a * d + 1) := by grind
    _ ≤ G * (c * b) := h2
    _ = c * G * b := by grind
theorem fl_eq {a b c d G : Int} (hb : 0 < b) (hd : 0 < d) (h : a * d = c * b) : a * G / b = c * G / d := by
  have e1 : a * G / b = (a * G * d) / (b * d) := (Int.mul_ediv_mul_of_pos_left (a * G) b hd).symm
  have e2 : c * G / d = (c * G * b) / (d * b) := (Int.mul_ediv_mul_of_pos_left (c * G) d hb).symm
  rw [e1, e2, Int.mul_comm d b]
  congr 1
  have : a * G * d = G * (a * d) := by grind
  rw [this, h]
  grind
def bq (a b : Q3) : Bool := bef a.x a.y a.w b.x b.y b.w
theorem bq_lt {a b : Q3} : bq a b = true ↔ Lt 1 a b := by
  unfold bq Lt LP dX dY
  rw [bef_true]
  omega
def PQ (n : Nat) (a : Q3) : Prop := Pt n a.x a.y a.w
theorem pq_tri {n : Nat} {a b : Q3} (ha : PQ n a) (hb : PQ n b) (h1 : bq a b = false) (h2 : bq b a = false) : a = b := by
  obtain ⟨e1, e2, e3⟩ := bef_tri ha hb (h1.trans h2.symm)
  obtain ⟨x, y, w⟩ := a
  obtain ⟨x', y', w'⟩ := b
  simp only at e1 e2 e3
  rw [e1, e2, e3]
def kyQ (g : Int) (r : Q3) : Int × Int := (r.x * (g * g) / r.w, r.y * (g * g) / r.w)
theorem ky_lt {a b : Q3} {g : Int} (ha : 0 < a.w) (hb : 0 < b.w) (ga : a.w ≤ g) (gb : b.w ≤ g) (h : bq a b = true) : L2.lt2 (kyQ g a) (kyQ g b) = true := by
  have hG : a.w * b.w ≤ g * g := Int.mul_le_mul ga gb (Int.le_of_lt hb) (Int.le_trans (Int.le_of_lt ha) ga)
  unfold bq at h
  rw [bef_true] at h
  unfold L2.lt2 L2.lexB kyQ
  rcases h with h | ⟨h, h'⟩
  · have := fl_lt ha hb h hG
    rw [if_neg (by omega)]
    exact decide_eq_true this
  · rw [if_pos (fl_eq ha hb h)]
    exact decide_eq_true (fl_lt ha hb h' hG)
end My
namespace Mine
open PySem L2 My
def top (i : Nat) : Stmt := PySem.Challenge.pw_acre_k57_hulls.main.body.getD i (.Pass ⟨0, 0, 0, 0⟩)
abbrev s_sign_of : Stmt := top 1
theorem sc_sign_of : FnScope ["number"] ["number"] (defScope s_sign_of) := ⟨rfl, rfl, rfl, by decide +kernel, rfl, by decide +kernel, by decide +kernel⟩
abbrev s_line_of : Stmt := top 2
theorem sc_line_of : FnScope ["P", "Q"] ["P", "Q"] (defScope s_line_of) := ⟨rfl, rfl, rfl, by decide +kernel, rfl, by decide +kernel, by decide +kernel⟩
abbrev s_side_of : Stmt := top 3
theorem sc_side_of : FnScope ["line", "P"] ["line", "P"] (defScope s_side_of) := ⟨rfl, rfl, rfl, by decide +kernel, rfl, by decide +kernel, by decide +kernel⟩
abbrev s_turn : Stmt := top 4
theorem sc_turn : FnScope ["P", "Q", "R"] ["P", "Q", "R"] (defScope s_turn) := ⟨rfl, rfl, rfl, by decide +kernel, rfl, by decide +kernel, by decide +kernel⟩
abbrev s_order_keys : Stmt := top 5
theorem sc_order_keys : FnScope ["points", "greatest", "scale", "keys", "P"] ["points"] (defScope s_order_keys) := ⟨rfl, rfl, rfl, by decide +kernel, rfl, by decide +kernel, by decide +kernel⟩
abbrev s_in_order : Stmt := top 6
theorem sc_in_order : FnScope ["points", "keys"] ["points"] (defScope s_in_order) := ⟨rfl, rfl, rfl, by decide +kernel, rfl, by decide +kernel, by decide +kernel⟩
abbrev s_hull : Stmt := top 8
theorem sc_hull : FnScope ["points", "ordered", "low", "high"] ["points"] (defScope s_hull) := ⟨rfl, rfl, rfl, by decide +kernel, rfl, by decide +kernel, by decide +kernel⟩
abbrev s_half_round : Stmt := top 9
theorem sc_half_round : FnScope ["ordered", "chain", "P"] ["ordered"] (defScope s_half_round) := ⟨rfl, rfl, rfl, by decide +kernel, rfl, by decide +kernel, by decide +kernel⟩
abbrev s_law_cell_at : Stmt := top 11
theorem sc_law_cell_at : FnScope ["_law_script", "_law_k"] ["_law_script", "_law_k"] (defScope s_law_cell_at) := ⟨rfl, rfl, rfl, by decide +kernel, rfl, by decide +kernel, by decide +kernel⟩
abbrev s_law_stream : Stmt := top 12
theorem sc_law_stream : FnScope ["_law_cell", "_law_many", "_law_found", "_law_number", "_law_k"] ["_law_cell", "_law_many"] (defScope s_law_stream) := ⟨rfl, rfl, rfl, by decide +kernel, rfl, by decide +kernel, by decide +kernel⟩
abbrev s_law_divisor : Stmt := top 13
theorem sc_law_divisor : FnScope ["_law_one", "_law_other"] ["_law_one", "_law_other"] (defScope s_law_divisor) := ⟨rfl, rfl, rfl, by decide +kernel, rfl, by decide +kernel, by decide +kernel⟩
abbrev s_law_lowest : Stmt := top 14
theorem sc_law_lowest : FnScope ["_law_x", "_law_y", "_law_w", "_law_share"] ["_law_x", "_law_y", "_law_w"] (defScope s_law_lowest) := ⟨rfl, rfl, rfl, by decide +kernel, rfl, by decide +kernel, by decide +kernel⟩
abbrev s_law_point : Stmt := top 15
theorem sc_law_point : FnScope ["_law_number", "_law_kind", "_law_x", "_law_y"] ["_law_number", "_law_kind"] (defScope s_law_point) := ⟨rfl, rfl, rfl, by decide +kernel, rfl, by decide +kernel, by decide +kernel⟩
abbrev s_law_before : Stmt := top 16
theorem sc_law_before : FnScope ["_law_one", "_law_other"] ["_law_one", "_law_other"] (defScope s_law_before) := ⟨rfl, rfl, rfl, by decide +kernel, rfl, by decide +kernel, by decide +kernel⟩
abbrev s_law_turn : Stmt := top 17
theorem sc_law_turn : FnScope ["_law_a", "_law_b", "_law_c", "_law_found"] ["_law_a", "_law_b", "_law_c"] (defScope s_law_turn) := ⟨rfl, rfl, rfl, by decide +kernel, rfl, by decide +kernel, by decide +kernel⟩
abbrev s_law_points : Stmt := top 19
theorem sc_law_points : FnScope ["_law_script", "_law_first", "_law_xs", "_law_many", "_law_kind", "_law_spots", "_law_k", "_law_way", "_law_step"] ["_law_script"] (defScope s_law_points) := ⟨rfl, rfl, rfl, by decide +kernel, rfl, by decide +kernel, by decide +kernel⟩
abbrev s_law_outermost : Stmt := top 20
theorem sc_law_outermost : FnScope ["_law_spots", "_law_low", "_law_high", "_law_spot"] ["_law_spots"] (defScope s_law_outermost) := ⟨rfl, rfl, rfl, by decide +kernel, rfl, by decide +kernel, by decide +kernel⟩
abbrev s_law_round : Stmt := top 21
theorem sc_law_round : FnScope ["_law_found", "_law_spots", "_law_k", "_law_one", "_law_other", "_law_spot"] ["_law_found", "_law_spots"] (defScope s_law_round) := ⟨rfl, rfl, rfl, by decide +kernel, rfl, by decide +kernel, by decide +kernel⟩
abbrev s_law_right : Stmt := top 22
theorem sc_law_right : FnScope ["_law_found", "_law_spots", "_law_ends"] ["_law_found", "_law_spots"] (defScope s_law_right) := ⟨rfl, rfl, rfl, by decide +kernel, rfl, by decide +kernel, by decide +kernel⟩
abbrev s_law : Stmt := top 23
theorem sc_law : FnScope ["_law_script", "_law_spots", "_law_handed", "_law_found", "_law_kept"] ["_law_script"] (defScope s_law) := ⟨rfl, rfl, rfl, by decide +kernel, rfl, by decide +kernel, by decide +kernel⟩
structure FnAt (K : PySem.W.Frag) (mg : Str → Option Value) (x : Str) (st : Stmt) (ps : List Str) (f : Addr) (fd : FuncData) : Prop where
  fn : Fun K x x st f fd
  bn : Binds K fd ps []
  mg : mg x = some (.ref f)
structure Txt (K : PySem.W.Frag) (mg : Str → Option Value) (ad : Nat → Addr) (fd : Nat → FuncData) : Prop where
  sign_of : FnAt K mg "sign_of" s_sign_of ["number"] (ad 0) (fd 0)
  line_of : FnAt K mg "line_of" s_line_of ["P", "Q"] (ad 1) (fd 1)
  side_of : FnAt K mg "side_of" s_side_of ["line", "P"] (ad 2) (fd 2)
  turn : FnAt K mg "turn" s_turn ["P", "Q", "R"] (ad 3) (fd 3)
  order_keys : FnAt K mg "order_keys" s_order_keys ["points"] (ad 4) (fd 4)
  in_order : FnAt K mg "in_order" s_in_order ["points"] (ad 5) (fd 5)
  in_order_c : FunC K "in_order" "in_order" s_in_order (ad 5) (fd 5) (ad 20) (ad 21)
  hull : FnAt K mg "hull" s_hull ["points"] (ad 6) (fd 6)
  half_round : FnAt K mg "half_round" s_half_round ["ordered"] (ad 7) (fd 7)
  law_cell_at : FnAt K mg "_law_cell_at" s_law_cell_at ["_law_script", "_law_k"] (ad 8) (fd 8)
  law_stream : FnAt K mg "_law_stream" s_law_stream ["_law_cell", "_law_many"] (ad 9) (fd 9)
  law_divisor : FnAt K mg "_law_divisor" s_law_divisor ["_law_one", "_law_other"] (ad 10) (fd 10)
  law_lowest : FnAt K mg "_law_lowest" s_law_lowest ["_law_x", "_law_y", "_law_w"] (ad 11) (fd 11)
  law_point : FnAt K mg "_law_point" s_law_point ["_law_number", "_law_kind"] (ad 12) (fd 12)
  law_before : FnAt K mg "_law_before" s_law_before ["_law_one", "_law_other"] (ad 13) (fd 13)
  law_turn : FnAt K mg "_law_turn" s_law_turn ["_law_a", "_law_b", "_law_c"] (ad 14) (fd 14)
  law_points : FnAt K mg "_law_points" s_law_points ["_law_script"] (ad 15) (fd 15)
  law_outermost : FnAt K mg "_law_outermost" s_law_outermost ["_law_spots"] (ad 16) (fd 16)
  law_round : FnAt K mg "_law_round" s_law_round ["_law_found", "_law_spots"] (ad 17) (fd 17)
  law_right : FnAt K mg "_law_right" s_law_right ["_law_found", "_law_spots"] (ad 18) (fd 18)
  law : FnAt K mg "law" s_law ["_law_script"] (ad 19) (fd 19)
  b_abs : mg "abs" = none
  b_isinstance : mg "isinstance" = none
  b_len : mg "len" = none
  b_list : mg "list" = none
  b_max : mg "max" = none
  b_range : mg "range" = none
  b_reversed : mg "reversed" = none
  b_set : mg "set" = none
  b_sorted : mg "sorted" = none
def sp_divisor : Sp := fun vs H Q _ => ∃ a b : Int, vs = [.int a, .int b] ∧ Q (.int (G a b)) H
def sp_cell (K : PySem.W.Frag) : Sp := fun vs H Q _ => ∃ (l : Addr) (ns : List Int) (k : Int), vs = [.ref l, .int k] ∧ SqL K H l (ns.map V.int) ∧ 0 ≤ k ∧ Q (.int (ns.getD k.toNat 0)) H
def PtH (n : Nat) (H : Hp) (p : Addr) (x y w : Int) : Prop := H p = some (.tup [.int x, .int y, .int w]) ∧ Pt n x y w
theorem PtH.same {n : Nat} {H H' : Hp} {p : Addr} {x y w : Int} (h : PtH n H p x y w) (g : Same H H') : PtH n H' p x y w := ⟨g _ _ h.1, h.2⟩
theorem PtH.mono {m n : Nat} {H : Hp} {p : Addr} {x y w : Int} (h : PtH m H p x y w) (hm : m ≤ n) : PtH n H p x y w := ⟨h.1, h.2.mono hm⟩
def Bd3 (n : Nat) (a b c : Int) : Prop := a.natAbs < 2 ^ n ∧ b.natAbs < 2 ^ n ∧ c.natAbs < 2 ^ n
def TB (n : Nat) (H : Hp) (p : Addr) (x y w : Int) : Prop := H p = some (.tup [.int x, .int y, .int w]) ∧ Bd3 n x y w
theorem TB.same {n : Nat} {H H' : Hp} {p : Addr} {x y w : Int} (h : TB n H p x y w) (g : Same H H') : TB n H' p x y w := ⟨g _ _ h.1, h.2⟩
theorem Bd3.mono {m n : Nat} {x y w : Int} (h : Bd3 m x y w) (hm : m ≤ n) : Bd3 n x y w := ⟨lt_mono h.1 hm, lt_mono h.2.1 hm, lt_mono h.2.2 hm⟩
theorem TB.mono {m n : Nat} {H : Hp} {p : Addr} {x y w : Int} (h : TB m H p x y w) (hm : m ≤ n := by decide) : TB n H p x y w := ⟨h.1, h.2.mono hm⟩
theorem Pt.bd {m n : Nat} {x y w : Int} (h : Pt m x y w) (hm : m ≤ n := by decide) : Bd3 n x y w := ⟨lt_mono h.lx hm, lt_mono h.ly hm, lt_mono h.lw hm⟩
theorem PtH.tb {m n : Nat} {H : Hp} {p : Addr} {x y w : Int} (h : PtH m H p x y w) (hm : m ≤ n := by decide) : TB n H p x y w := ⟨h.1, Pt.bd h.2 hm⟩
def sp_before : Sp := fun vs H Q _ => ∃ (p q : Addr) (x1 y1 w1 x2 y2 w2 : Int), vs = [.ref p, .ref q] ∧ TB 1000 H p x1 y1 w1 ∧ TB 1000 H q x2 y2 w2 ∧ Q (.bl (bef x1 y1 w1 x2 y2 w2)) H
def sp_sign : Sp := fun vs H Q _ => ∃ z : Int, vs = [.int z] ∧ Q (.int (sgn z)) H
def sp_line : Sp := fun vs H Q _ => ∃ (p q : Addr) (x1 y1 w1 x2 y2 w2 : Int), vs = [.ref p, .ref q] ∧ TB 1000 H p x1 y1 w1 ∧ TB 1000 H q x2 y2 w2 ∧ ∀ (r : Addr) (H' : Hp), Same H H' →
  H' r = some (.tup [.int (lnA x1 y1 w1 x2 y2 w2), .int (lnB x1 y1 w1 x2 y2 w2), .int (lnC x1 y1 w1 x2 y2 w2)]) → Q (.ref r) H'
theorem ln_bd {x1 y1 w1 x2 y2 w2 : Int} (p : Bd3 1000 x1 y1 w1) (q : Bd3 1000 x2 y2 w2) : Bd3 2001 (lnA x1 y1 w1 x2 y2 w2) (lnB x1 y1 w1 x2 y2 w2) (lnC x1 y1 w1 x2 y2 w2) :=
  ⟨sub_lt (mul_lt p.2.1 q.2.2) (mul_lt p.2.2 q.2.1), sub_lt (mul_lt p.2.2 q.1) (mul_lt p.1 q.2.2), sub_lt (mul_lt p.1 q.2.1) (mul_lt p.2.1 q.1)⟩
def sp_side : Sp := fun vs H Q _ => ∃ (l p : Addr) (a b c x y w : Int), vs = [.ref l, .ref p] ∧ H l = some (.tup [.int a, .int b, .int c]) ∧ Bd3 2001 a b c ∧ H p = some (.tup [.int x, .int y, .int w]) ∧ Bd3 5000 x y w ∧ Q (.int (sgn (a * x + b * y + c * w))) H
def sp_turn : Sp := fun vs H Q _ => ∃ (p q r : Addr) (x1 y1 w1 x2 y2 w2 x3 y3 w3 : Int), vs = [.ref p, .ref q, .ref r] ∧ TB 1000 H p x1 y1 w1 ∧ TB 1000 H q x2 y2 w2 ∧ TB 5000 H r x3 y3 w3 ∧ ∀ H', Same H H' → Q (.int (sgn (det3 x1 y1 w1 x2 y2 w2 x3 y3 w3))) H'
def TupSame (H H' : Hp) : Prop := ∀ b xs, H b = some (.tup xs) → H' b = some (.tup xs)
theorem ts_same {H H' : Hp} (g : Same H H') : TupSame H H' := fun b xs h => g b _ h
theorem ts_put {H : Hp} {D : Addr} {ys : List V} {o : HO} (h : H D = some (.lst ys)) : TupSame H (upd H D o) := fun b xs q => by
  rw [upd_ne (ne_of q h (by intro z; cases z))]
  exact q
def PB (H : Hp) (p : Addr) : Prop := ∃ x y w : Int, TB 1000 H p x y w ∧ 0 < w
def PBn (n : Nat) (H : Hp) (p : Addr) : Prop := ∃ x y w : Int, TB n H p x y w ∧ 0 < w
theorem PBn.ts {n : Nat} {H H' : Hp} {p : Addr} (g : TupSame H H') (h : PBn n H p) : PBn n H' p := by
  obtain ⟨x, y, w, ⟨h1, h2⟩, h3⟩ := h
  exact ⟨x, y, w, ⟨g _ _ h1, h2⟩, h3⟩
theorem PBn.pb {n : Nat} {H : Hp} {p : Addr} (h : PBn n H p) (hn : n ≤ 1000) : PB H p := by
  obtain ⟨x, y, w, h1, h3⟩ := h
  exact ⟨x, y, w, h1.mono hn, h3⟩
theorem PBn.mono {m n : Nat} {H : Hp} {p : Addr} (h : PBn m H p) (hn : m ≤ n) : PBn n H p := by
  obtain ⟨x, y, w, h1, h3⟩ := h
  exact ⟨x, y, w, h1.mono hn, h3⟩
theorem PB.ts {H H' : Hp} {p : Addr} (g : TupSame H H') (h : PB H p) : PB H' p := by
  obtain ⟨x, y, w, ⟨h1, h2⟩, h3⟩ := h
  exact ⟨x, y, w, ⟨g _ _ h1, h2⟩, h3⟩
def StV (H : Hp) (p : Addr) (d : S6) : Prop := ∃ a b, H p = some (.tup [.ref a, .ref b]) ∧ TB 1000 H a d.x1 d.y1 d.w1 ∧ TB 1000 H b d.x2 d.y2 d.w2
theorem TB.ts {n : Nat} {H H' : Hp} {p : Addr} {x y w : Int} (h : TB n H p x y w) (g : TupSame H H') : TB n H' p x y w := ⟨g _ _ h.1, h.2⟩
theorem StV.ts {H H' : Hp} {p : Addr} {d : S6} (h : StV H p d) (g : TupSame H H') : StV H' p d := by
  obtain ⟨a, b, h1, h2, h3⟩ := h
  exact ⟨a, b, g _ _ h1, h2.ts g, h3.ts g⟩
def StL (H : Hp) (ys : List V) (ds : List S6) : Prop := ys.length = ds.length ∧ ∀ (j : Nat) (v : V), ys[j]? = some v → ∃ (p : Addr) (d : S6), v = .ref p ∧ ds[j]? = some d ∧ StV H p d
theorem StL.ts {H H' : Hp} {ys : List V} {ds : List S6} (h : StL H ys ds) (g : TupSame H H') : StL H' ys ds := ⟨h.1, fun j v z => by
  obtain ⟨p, d, e, f, s⟩ := h.2 j v z
  exact ⟨p, d, e, f, s.ts g⟩⟩
theorem StL.nil {H : Hp} : StL H [] [] := ⟨rfl, fun j v z => by cases z⟩
theorem StL.snoc {H : Hp} {ys : List V} {ds : List S6} {p : Addr} {d : S6} (h : StL H ys ds) (s : StV H p d) : StL H (ys ++ [.ref p]) (ds ++ [d]) := by
  refine ⟨by rw [List.length_append, List.length_append, h.1]; rfl, fun j v z => ?_⟩
  by_cases hj : j < ys.length
  · rw [List.getElem?_append_left hj] at z
    obtain ⟨q, e, f, g, t⟩ := h.2 j v z
    exact ⟨q, e, f, by rw [List.getElem?_append_left (by rw [← h.1]; exact hj)]; exact g, t⟩
  · rw [List.getElem?_append_right (by omega)] at z
    cases e : j - ys.length with
    | zero =>
      rw [e] at z
      cases z
      exact ⟨p, d, rfl, by rw [List.getElem?_append_right (by rw [← h.1]; omega), ← h.1, e]; rfl, s⟩
    | succ n => rw [e] at z; cases z
def iv_ldiv (a b : Int) (H₀ : Hp) : St → Hp → Prop := fun σ H' => H' = H₀ ∧ ∃ x y : Int, σ = [some (.int x), some (.int y)] ∧ G x y = G a b
def sp_klowest : Sp := fun vs H Q _ => ∃ (n : Nat) (x y w : Int), vs = [.int x, .int y, .int w] ∧ n ≤ 8000 ∧ Bd3 n x y w ∧ 0 < w ∧ ∀ p H' a b c, Same H H' → PtH n H' p a b c → Q (.ref p) H'
def sp_kpoint : Sp := fun vs H Q _ => ∃ n k : Int, vs = [.int n, .int k] ∧ ∀ p H' a b c, Same H H' → PtH 60 H' p a b c → Q (.ref p) H'
def sp_kturn : Sp := fun vs H Q _ => ∃ (p q r : Addr) (x1 y1 w1 x2 y2 w2 x3 y3 w3 : Int), vs = [.ref p, .ref q, .ref r] ∧ TB 1000 H p x1 y1 w1 ∧ TB 1000 H q x2 y2 w2 ∧ TB 5000 H r x3 y3 w3 ∧ Q (.int (sgn (det3 x1 y1 w1 x2 y2 w2 x3 y3 w3))) H
structure P3 where
  x : Int
  y : Int
  w : Int
def sd1 (p q : P3) : S6 := if bef p.x p.y p.w q.x q.y q.w = true then ⟨p.x, p.y, p.w, q.x, q.y, q.w⟩ else ⟨q.x, q.y, q.w, p.x, p.y, p.w⟩
def sd (p q : P3) : List S6 := if p.x = q.x ∧ p.y = q.y ∧ p.w = q.w then [] else [sd1 p q]
theorem cut_from1 (xs : List V) : cutV xs (some 1) none = xs.drop 1 := by
  unfold cutV
  rw [show (1 : Int) = ((1 : Nat) : Int) from rfl, HT.sIx_nat, HT.sIx_none]
  rcases xs with _ | ⟨x, xs⟩
  · rfl
  · rw [Nat.min_eq_left (by rw [List.length_cons]; omega), List.take_of_length_le (by rw [List.length_drop]; omega)]
theorem cut_to1 (xs : List V) : cutV xs none (some 1) = xs.take 1 := by
  unfold cutV
  rw [show (1 : Int) = ((1 : Nat) : Int) from rfl, HT.sIx_nat, HT.sIx_none, List.drop_zero, Nat.sub_zero]
  rcases xs with _ | ⟨x, xs⟩
  · rfl
  · rw [Nat.min_eq_left (by rw [List.length_cons]; omega)]
def RgH (H : Hp) (p : Addr) (r : List P3) : Prop := ∃ zs, H p = some (.lst zs) ∧ zs.length = r.length ∧ r.length ≤ 20 ∧ ∀ (k : Nat) (v : V), zs[k]? = some v → ∃ (a : Addr) (c : P3), v = .ref a ∧ r[k]? = some c ∧ TB 1000 H a c.x c.y c.w
theorem RgH.same {H H' : Hp} {p : Addr} {r : List P3} (h : RgH H p r) (g : Same H H') : RgH H' p r := by
  obtain ⟨zs, h1, h2, h3, h4⟩ := h
  refine ⟨zs, g _ _ h1, h2, h3, fun k v z => ?_⟩
  obtain ⟨a, c, e, f, t⟩ := h4 k v z
  exact ⟨a, c, e, f, t.same g⟩
def RgL (H : Hp) (ys : List V) (rs : List (List P3)) : Prop := ys.length = rs.length ∧ ∀ (j : Nat) (v : V), ys[j]? = some v → ∃ (p : Addr) (r : List P3), v = .ref p ∧ rs[j]? = some r ∧ RgH H p r
theorem RgL.same {H H' : Hp} {ys : List V} {rs : List (List P3)} (h : RgL H ys rs) (g : Same H H') : RgL H' ys rs := ⟨h.1, fun j v z => by
  obtain ⟨p, r, e, f, t⟩ := h.2 j v z
  exact ⟨p, r, e, f, t.same g⟩⟩
theorem RgL.nil {H : Hp} : RgL H [] [] := ⟨rfl, fun j v z => by cases z⟩
theorem bt_set : bootBuiltins "set" = some (.type "set") := by decide +kernel
theorem bt_reversed : bootBuiltins "reversed" = some (.type "reversed") := by decide +kernel
def LR {α : Type} (R : Hp → Addr → α → Prop) (H : Hp) (ys : List V) (as : List α) : Prop := ys.length = as.length ∧ ∀ (j : Nat) (v : V), ys[j]? = some v → ∃ (p : Addr) (a : α), v = .ref p ∧ as[j]? = some a ∧ R H p a
section
variable {α : Type} {R : Hp → Addr → α → Prop}
theorem LR.ts (hR : ∀ H H' p a, TupSame H H' → R H p a → R H' p a) {H H' : Hp} {ys : List V} {as : List α} (h : LR R H ys as) (g : TupSame H H') : LR R H' ys as := ⟨h.1, fun j v z => by
  obtain ⟨p, d, e, f, s⟩ := h.2 j v z
  exact ⟨p, d, e, f, hR _ _ _ _ g s⟩⟩
theorem LR.nil {H : Hp} : LR R H [] [] := ⟨rfl, fun j v z => by cases z⟩
theorem LR.app {H : Hp} {ys zs : List V} {as bs : List α} (h : LR R H ys as) (h' : LR R H zs bs) : LR R H (ys ++ zs) (as ++ bs) := by
  refine ⟨by rw [List.length_append, List.length_append, h.1, h'.1], fun j v z => ?_⟩
  by_cases hj : j < ys.length
  · rw [List.getElem?_append_left hj] at z
    obtain ⟨q, e, f, g, t⟩ := h.2 j v z
    exact ⟨q, e, f, by rw [List.getElem?_append_left (by rw [← h.1]; exact hj)]; exact g, t⟩
  · rw [List.getElem?_append_right (by omega)] at z
    obtain ⟨q, e, f, g, t⟩ := h'.2 _ v z
    exact ⟨q, e, f, by rw [List.getElem?_append_right (by rw [← h.1]; omega), ← h.1]; exact g, t⟩
theorem LR.one {H : Hp} {p : Addr} {a : α} (s : R H p a) : LR R H [.ref p] [a] := ⟨rfl, fun j v z => by
  cases j with
  | zero => cases z; exact ⟨p, a, rfl, rfl, s⟩
  | succ n => cases z⟩
theorem LR.snoc {H : Hp} {ys : List V} {as : List α} {p : Addr} {a : α} (h : LR R H ys as) (s : R H p a) : LR R H (ys ++ [.ref p]) (as ++ [a]) := h.app (.one s)
theorem LR.drop {H : Hp} {ys : List V} {as : List α} (h : LR R H ys as) (n : Nat) : LR R H (ys.drop n) (as.drop n) := by
  refine ⟨by rw [List.length_drop, List.length_drop, h.1], fun j v z => ?_⟩
  rw [List.getElem?_drop] at z
  obtain ⟨q, e, f, g, t⟩ := h.2 _ v z
  exact ⟨q, e, f, by rw [List.getElem?_drop]; exact g, t⟩
theorem LR.at {H : Hp} {ys : List V} {as : List α} (h : LR R H ys as) {j : Nat} (hj : j < ys.length) : ∃ (p : Addr) (a : α), ys[j]? = some (.ref p) ∧ as[j]? = some a ∧ R H p a := by
  obtain ⟨p, a, e, f, r⟩ := h.2 j ys[j] (List.getElem?_eq_getElem hj)
  exact ⟨p, a, by rw [List.getElem?_eq_getElem hj, e], f, r⟩
theorem LR.map {β : Type} {f : β → α} {H : Hp} {ys : List V} {bs : List β} (h : LR (fun H p b => R H p (f b)) H ys bs) : LR R H ys (bs.map f) := by
  refine ⟨by rw [List.length_map, h.1], fun j v z => ?_⟩
  obtain ⟨q, e, g, k, t⟩ := h.2 _ v z
  exact ⟨q, f e, g, by rw [List.getElem?_map, k]; rfl, t⟩
theorem LR.cons_inv {H : Hp} {v : V} {vs : List V} {as : List α} (h : LR R H (v :: vs) as) : ∃ a as', as = a :: as' ∧ (∃ p, v = .ref p ∧ R H p a) ∧ LR R H vs as' := by
  cases as with
  | nil => cases h.1
  | cons a as' =>
    refine ⟨a, as', rfl, ?_, Nat.succ.inj h.1, fun j u z => h.2 (j + 1) u z⟩
    obtain ⟨p, b, e, f, r⟩ := h.2 0 v rfl
    cases f
    exact ⟨p, e, r⟩
theorem LR.cons {H : Hp} {v : V} {vs : List V} {a : α} {as : List α} (h : ∃ p, v = .ref p ∧ R H p a) (t : LR R H vs as) : LR R H (v :: vs) (a :: as) := by
  obtain ⟨p, rfl, r⟩ := h
  exact (LR.one r).app t
end
theorem op_notInK {X : Cx} {K' : PySem.W.Frag} (hK : X.K = K') (hu : X.A.units + 64 < cLine) : OpR X (compareOp .NotIn) (rNotInL K') := by subst hK; exact op_notInL hu
theorem keyKP_pairs80 {X : Cx} (hu : X.A.units + 80 < cLine) : KeyKP X KPp := keyKP_pairs (by omega)
def QH (H : Hp) (p : Addr) (r : Q3) : Prop := H p = some (.tup [.int r.x, .int r.y, .int r.w]) ∧ PQ 60 r
theorem qh_ts : ∀ (H H' : Hp) (p : Addr) (r : Q3), TupSame H H' → QH H p r → QH H' p r := fun _ _ _ _ g h => ⟨g _ _ h.1, h.2⟩
theorem QH.same {H H' : Hp} {p : Addr} {r : Q3} (h : QH H p r) (g : Same H H') : QH H' p r := ⟨g _ _ h.1, h.2⟩
theorem QH.tb {H : Hp} {p : Addr} {r : Q3} (h : QH H p r) {n : Nat} (hn : 60 ≤ n := by decide) : TB n H p r.x r.y r.w := ⟨h.1, Pt.bd h.2 hn⟩
theorem QH.of {H : Hp} {p : Addr} {a b c : Int} (h : PtH 60 H p a b c) : QH H p ⟨a, b, c⟩ := h
theorem LR.same {H H' : Hp} {ys : List V} {ps : List Q3} (h : LR QH H ys ps) (g : Same H H') : LR QH H' ys ps := h.ts qh_ts (ts_same g)
theorem LR.take {α : Type} {R : Hp → Addr → α → Prop} {H : Hp} {ys : List V} {as : List α} (h : LR R H ys as) (n : Nat) : LR R H (ys.take n) (as.take n) := by
  refine ⟨by rw [List.length_take, List.length_take, h.1], fun j v z => ?_⟩
  rw [List.getElem?_take] at z
  by_cases c : j < n
  · rw [if_pos c] at z
    obtain ⟨q, e, f, g, t⟩ := h.2 _ v z
    exact ⟨q, e, f, by rw [List.getElem?_take, if_pos c]; exact g, t⟩
  · rw [if_neg c] at z
    cases z
theorem LR.dropLast {α : Type} {R : Hp → Addr → α → Prop} {H : Hp} {ys : List V} {as : List α} (h : LR R H ys as) : LR R H ys.dropLast as.dropLast := by
  rw [List.dropLast_eq_take, List.dropLast_eq_take, h.1]
  exact h.take _
theorem LR.reverse {α : Type} {R : Hp → Addr → α → Prop} {H : Hp} {ys : List V} {as : List α} (h : LR R H ys as) : LR R H ys.reverse as.reverse := by
  refine ⟨by rw [List.length_reverse, List.length_reverse, h.1], fun j v z => ?_⟩
  have hj : j < ys.length := by have := (List.getElem?_eq_some_iff.mp z).1; rwa [List.length_reverse] at this
  rw [List.getElem?_reverse hj] at z
  obtain ⟨q, e, f, g, t⟩ := h.2 _ v z
  exact ⟨q, e, f, by rw [List.getElem?_reverse (by rw [← h.1]; exact hj), ← h.1]; exact g, t⟩
theorem LR.split2 {α : Type} {R : Hp → Addr → α → Prop} {H : Hp} {ys : List V} {as : List α} {a b : α} (h : LR R H ys (as ++ [a, b])) : ∃ (zs : List V) (p q : Addr), ys = zs ++ [.ref p, .ref q] ∧ R H p a ∧ R H q b ∧ LR R H zs as := by
  have hl := h.1
  rw [List.length_append] at hl
  simp only [List.length_cons, List.length_nil] at hl
  obtain ⟨p, a', e1, e2, r1⟩ := h.at (j := as.length) (by omega)
  obtain ⟨q, b', e3, e4, r2⟩ := h.at (j := as.length + 1) (by omega)
  rw [List.getElem?_append_right (Nat.le_refl _), Nat.sub_self] at e2
  rw [List.getElem?_append_right (by omega), show as.length + 1 - as.length = 1 by omega] at e4
  cases e2
  cases e4
  refine ⟨ys.take as.length, p, q, ?_, r1, r2, ?_⟩
  · refine List.ext_getElem? fun j => ?_
    by_cases c : j < as.length
    · rw [List.getElem?_append_left (by rw [List.length_take]; omega), List.getElem?_take, if_pos c]
    · rw [List.getElem?_append_right (by rw [List.length_take]; omega), List.length_take, show min as.length ys.length = as.length by omega]
      rcases (by omega : j = as.length ∨ j = as.length + 1 ∨ as.length + 2 ≤ j) with rfl | rfl | c'
      · rw [e1, Nat.sub_self]; rfl
      · rw [e3, show as.length + 1 - as.length = 1 by omega]; rfl
      · rw [List.getElem?_eq_none (by omega), List.getElem?_eq_none (by simp only [List.length_cons, List.length_nil]; omega)]
  · have z := h.take as.length
    rw [List.take_left] at z
    exact z
section
variable {P : Program} {w : World} {K : PySem.W.Frag} {mg : Str → Option Value} {base : Heap} {ad : Nat → Addr} {fd : Nat → FuncData}
theorem ok_sign_of (T : Txt K mg ad fd) : FnOk P w K mg base CX0 1 (ad 0) (fd 0) ["number"] sp_sign := by
  refine T.sign_of.fn.ok sc_sign_of (fun vs H Q E h => ?_) (fun cdv A outer s H vs Q E hr h => ?_)
  · obtain ⟨z, rfl, _⟩ := h
    rfl
  obtain ⟨z, rfl, k⟩ := h
  have qpss3 := @pss3
  have qps_if := @ps_if
  have qpt_cmpR := @pt_cmpR
  have qpv := @pv
  have qpe_int := @pe_int
  have qpss_one := @pss_one
  have qps_ret := @ps_ret
  have qpss_nil := @pss_nil
  have qpe_un := @pe_un
  generalize @L2.PE = QE, @L2.PT = QT, @L2.PW = QW, @L2.PA = QA, @L2.PS = QS, @L2.PSs = QSs, @L2.PG = QG, @L2.PGs = QGs, @L2.PI = QI, @L2.PO = QO, @L2.PIf = QIf at qpss3 qps_if qpt_cmpR qpv qpe_int qpss_one qps_ret qpss_nil qpe_un ⊢
  refine ⟨_,
    (qpss3
      (qps_if (qpt_cmpR op_gt (qpv 0) qpe_int (nomark _)) (qpss_one (qps_ret qpe_int)) qpss_nil)
      (qps_if (qpt_cmpR op_lt (qpv 0) qpe_int (nomark _)) (qpss_one (qps_ret (qpe_un un_neg qpe_int))) qpss_nil)
      (qps_ret qpe_int))
    , ?_⟩
  clear  qpss3 qps_if qpt_cmpR qpv qpe_int qpss_one qps_ret qpss_nil qpe_un QE QT QW QA QS QSs QG QGs QI QO QIf
  simp only [tSeq, tNext, tRet, tRetN, tIfS, tAsg, gName, tDrop, tVar, tC, tOp, tUn, rI, rI0, rU, rEq, rNe, tTest, tB, tNot, tAnd, tOr, tAndV, tOrV, tNotV, tIf, tCB, tCall, tNil, tCons, tTup, tLst, gTup, gCons, gNil, L2.start, rIsi, rIxT, rIxL, cx_K, tyN_non, tyN_bl, tyN_int, tyN_str, isi_ii, isi_ib, isi_it, isi_il, isi_bi, isi_bb, isi_tt, isi_ni, isi_si, isi_ti, isi_li, isi_di, isi_ll, scal_ii, scal_bb, sz0, sz1, sz2, sz3, sz4, List.map_cons, List.map_nil, List.length_cons, List.length_nil, List.replicate, List.cons_append, List.nil_append, List.append_nil, List.getElem?_cons_zero, List.getElem?_cons_succ, List.set_cons_zero, List.set_cons_succ, Option.some.injEq, V.int.injEq, V.bl.injEq, V.ref.injEq, V.ty.injEq, List.cons.injEq, and_true, true_and, exists_eq_left, exists_eq_left', exists_and_left, exists_and_right, exists_eq, exists_eq', and_assoc, Nat.reduceAdd, Nat.reduceSub, Bool.not_true, Bool.not_false, Bool.false_eq_true, if_true, if_false, reduceIte, Nat.zero_add, decide_true, decide_false, selC, comp_K, tYes, Option.join_some, rIxTH, rIxLH, rLenH, rIsiF, at0, at1, at2, at3, at4, at5, at6, at7, at8, HO.tup.injEq, HO.lst.injEq, reduceCtorEq, false_or, or_false, tyF_non, tyF_bl, tyF_int, tyF_str, exists_const, Int.reduceAdd, Int.reduceMul, Int.reduceSub, gSub, rSetL, tSl, tPart, tNoPart, rSlH, upd_same, upd_upd, rIntB, rListH, tBM, tBM0, rAppend, rClear, tPar, gTupH]
  unfold sgn at k
  refine ite2 (fun c => ?_) (fun c => ite2 (fun c2 => ?_) (fun c2 => ?_))
  · rw [if_pos (of_decide_eq_true c)] at k
    exact k
  · rw [if_neg (fun z => c (decide_eq_true z)), if_pos (of_decide_eq_true c2)] at k
    exact k
  · rw [if_neg (fun z => c (decide_eq_true z)), if_neg (fun z => c2 (decide_eq_true z))] at k
    exact k
theorem ok_line_of (T : Txt K mg ad fd) : FnOk P w K mg base CX0 1 (ad 1) (fd 1) ["P", "Q"] sp_line := by
  refine T.line_of.fn.ok sc_line_of (fun vs H Q E h => ?_) (fun cdv A outer s H vs Q E hr h => ?_)
  · obtain ⟨p, q, x1, y1, w1, x2, y2, w2, rfl, _⟩ := h
    rfl
  obtain ⟨p, q, x1, y1, w1, x2, y2, w2, rfl, ⟨hp, pp⟩, ⟨hq, pq⟩, k⟩ := h
  have qpss_one := @pss_one
  have qps_ret := @ps_ret
  have qpe_tup := @pe_tup
  have qpa3 := @pa3
  have qpe_op := @pe_op
  have qpe_ix := @pe_ix
  have qpv := @pv
  have qpe_int := @pe_int
  generalize @L2.PE = QE, @L2.PT = QT, @L2.PW = QW, @L2.PA = QA, @L2.PS = QS, @L2.PSs = QSs, @L2.PG = QG, @L2.PGs = QGs, @L2.PI = QI, @L2.PO = QO, @L2.PIf = QIf at qpss_one qps_ret qpe_tup qpa3 qpe_op qpe_ix qpv qpe_int ⊢
  refine ⟨_,
    (qpss_one (qps_ret (qpe_tup (qpa3 (qpe_op op_sub (qpe_op op_mulB (qpe_ix ix_tupH (qpv 0) qpe_int (fun _ _ => rfl)) (qpe_ix ix_tupH (qpv 1) qpe_int (fun _ _ => rfl))) (qpe_op op_mulB (qpe_ix ix_tupH (qpv 0) qpe_int (fun _ _ => rfl)) (qpe_ix ix_tupH (qpv 1) qpe_int (fun _ _ => rfl)))) ns_BinOp (qpe_op op_sub (qpe_op op_mulB (qpe_ix ix_tupH (qpv 0) qpe_int (fun _ _ => rfl)) (qpe_ix ix_tupH (qpv 1) qpe_int (fun _ _ => rfl))) (qpe_op op_mulB (qpe_ix ix_tupH (qpv 0) qpe_int (fun _ _ => rfl)) (qpe_ix ix_tupH (qpv 1) qpe_int (fun _ _ => rfl)))) ns_BinOp (qpe_op op_sub (qpe_op op_mulB (qpe_ix ix_tupH (qpv 0) qpe_int (fun _ _ => rfl)) (qpe_ix ix_tupH (qpv 1) qpe_int (fun _ _ => rfl))) (qpe_op op_mulB (qpe_ix ix_tupH (qpv 0) qpe_int (fun _ _ => rfl)) (qpe_ix ix_tupH (qpv 1) qpe_int (fun _ _ => rfl)))) ns_BinOp))))
    , ?_⟩
  clear  qpss_one qps_ret qpe_tup qpa3 qpe_op qpe_ix qpv qpe_int QE QT QW QA QS QSs QG QGs QI QO QIf
  simp only [tSeq, tNext, tRet, tRetN, tIfS, tAsg, gName, tDrop, tVar, tC, tOp, tUn, rI, rI0, rU, rEq, rNe, tTest, tB, tNot, tAnd, tOr, tAndV, tOrV, tNotV, tIf, tCB, tCall, tNil, tCons, tTup, tLst, gTup, gCons, gNil, L2.start, rIsi, rIxT, rIxL, cx_K, tyN_non, tyN_bl, tyN_int, tyN_str, isi_ii, isi_ib, isi_it, isi_il, isi_bi, isi_bb, isi_tt, isi_ni, isi_si, isi_ti, isi_li, isi_di, isi_ll, scal_ii, scal_bb, sz0, sz1, sz2, sz3, sz4, List.map_cons, List.map_nil, List.length_cons, List.length_nil, List.replicate, List.cons_append, List.nil_append, List.append_nil, List.getElem?_cons_zero, List.getElem?_cons_succ, List.set_cons_zero, List.set_cons_succ, Option.some.injEq, V.int.injEq, V.bl.injEq, V.ref.injEq, V.ty.injEq, List.cons.injEq, and_true, true_and, exists_eq_left, exists_eq_left', exists_and_left, exists_and_right, exists_eq, exists_eq', and_assoc, Nat.reduceAdd, Nat.reduceSub, Bool.not_true, Bool.not_false, Bool.false_eq_true, if_true, if_false, reduceIte, Nat.zero_add, decide_true, decide_false, selC, comp_K, tYes, Option.join_some, rIxTH, rIxLH, rLenH, rIsiF, at0, at1, at2, at3, at4, at5, at6, at7, at8, HO.tup.injEq, HO.lst.injEq, reduceCtorEq, false_or, or_false, tyF_non, tyF_bl, tyF_int, tyF_str, exists_const, Int.reduceAdd, Int.reduceMul, Int.reduceSub, gSub, rSetL, tSl, tPart, tNoPart, rSlH, upd_same, upd_upd, rIntB, rListH, tBM, tBM0, rAppend, rClear, tPar, gTupH, hp, hq]
  exact ⟨cbig pp.2.1 pq.2.2, cbig pp.2.2 pq.2.1, cbig pp.2.2 pq.1, cbig pp.1 pq.2.2, cbig pp.1 pq.2.1, cbig pp.2.1 pq.1, fun r hr => k r _ (same_new hr _) upd_same⟩
theorem ok_side_of (T : Txt K mg ad fd) : FnOk P w K mg base CX0 2 (ad 2) (fd 2) ["line", "P"] sp_side := by
  refine T.side_of.fn.ok sc_side_of (fun vs H Q E h => ?_) (fun cdv A outer s H vs Q E hr h => ?_)
  · obtain ⟨l, p, a, b, c, x, y, w, rfl, _⟩ := h
    rfl
  obtain ⟨l, p, a, b, c, x, y, w, rfl, hl, ⟨la, lb, lc⟩, hp, ⟨lx, ly, lw⟩, k⟩ := h
  have qpss_one := @pss_one
  have qps_ret := @ps_ret
  have qpe_call := @pe_call
  have qpa1 := @pa1
  have qpe_op := @pe_op
  have qpe_ix := @pe_ix
  have qpv := @pv
  have qpe_int := @pe_int
  generalize @L2.PE = QE, @L2.PT = QT, @L2.PW = QW, @L2.PA = QA, @L2.PS = QS, @L2.PSs = QSs, @L2.PG = QG, @L2.PGs = QGs, @L2.PI = QI, @L2.PO = QO, @L2.PIf = QIf at qpss_one qps_ret qpe_call qpa1 qpe_op qpe_ix qpv qpe_int ⊢
  refine ⟨_,
    (qpss_one (qps_ret (qpe_call (ok_sign_of T) (hr.mono (by decide)) rfl T.sign_of.mg T.sign_of.fn.kp T.sign_of.bn .nil pass0 (qpa1 (qpe_op op_add (qpe_op op_add (qpe_op op_mulB (qpe_ix ix_tupH (qpv 0) qpe_int (fun _ _ => rfl)) (qpe_ix ix_tupH (qpv 1) qpe_int (fun _ _ => rfl))) (qpe_op op_mulB (qpe_ix ix_tupH (qpv 0) qpe_int (fun _ _ => rfl)) (qpe_ix ix_tupH (qpv 1) qpe_int (fun _ _ => rfl)))) (qpe_op op_mulB (qpe_ix ix_tupH (qpv 0) qpe_int (fun _ _ => rfl)) (qpe_ix ix_tupH (qpv 1) qpe_int (fun _ _ => rfl)))) ns_BinOp))))
    , ?_⟩
  clear  qpss_one qps_ret qpe_call qpa1 qpe_op qpe_ix qpv qpe_int QE QT QW QA QS QSs QG QGs QI QO QIf
  simp only [sp_sign, tSeq, tNext, tRet, tRetN, tIfS, tAsg, gName, tDrop, tVar, tC, tOp, tUn, rI, rI0, rU, rEq, rNe, tTest, tB, tNot, tAnd, tOr, tAndV, tOrV, tNotV, tIf, tCB, tCall, tNil, tCons, tTup, tLst, gTup, gCons, gNil, L2.start, rIsi, rIxT, rIxL, cx_K, tyN_non, tyN_bl, tyN_int, tyN_str, isi_ii, isi_ib, isi_it, isi_il, isi_bi, isi_bb, isi_tt, isi_ni, isi_si, isi_ti, isi_li, isi_di, isi_ll, scal_ii, scal_bb, sz0, sz1, sz2, sz3, sz4, List.map_cons, List.map_nil, List.length_cons, List.length_nil, List.replicate, List.cons_append, List.nil_append, List.append_nil, List.getElem?_cons_zero, List.getElem?_cons_succ, List.set_cons_zero, List.set_cons_succ, Option.some.injEq, V.int.injEq, V.bl.injEq, V.ref.injEq, V.ty.injEq, List.cons.injEq, and_true, true_and, exists_eq_left, exists_eq_left', exists_and_left, exists_and_right, exists_eq, exists_eq', and_assoc, Nat.reduceAdd, Nat.reduceSub, Bool.not_true, Bool.not_false, Bool.false_eq_true, if_true, if_false, reduceIte, Nat.zero_add, decide_true, decide_false, selC, comp_K, tYes, Option.join_some, rIxTH, rIxLH, rLenH, rIsiF, at0, at1, at2, at3, at4, at5, at6, at7, at8, HO.tup.injEq, HO.lst.injEq, reduceCtorEq, false_or, or_false, tyF_non, tyF_bl, tyF_int, tyF_str, exists_const, Int.reduceAdd, Int.reduceMul, Int.reduceSub, gSub, rSetL, tSl, tPart, tNoPart, rSlH, upd_same, upd_upd, rIntB, rListH, tBM, tBM0, rAppend, rClear, tPar, gTupH, hl, hp]
  exact ⟨cbig la lx, cbig lb ly, cbig lc lw, k⟩
theorem ok_turn (T : Txt K mg ad fd) : FnOk P w K mg base CX0 3 (ad 3) (fd 3) ["P", "Q", "R"] sp_turn := by
  refine T.turn.fn.ok sc_turn (fun vs H Q E h => ?_) (fun cdv A outer s H vs Q E hr h => ?_)
  · obtain ⟨p, q, r, x1, y1, w1, x2, y2, w2, x3, y3, w3, rfl, _⟩ := h
    rfl
  obtain ⟨p, q, r, x1, y1, w1, x2, y2, w2, x3, y3, w3, rfl, hp, hq, hr', k⟩ := h
  have qpss_one := @pss_one
  have qps_ret := @ps_ret
  have qpe_call := @pe_call
  have qpa2 := @pa2
  have qpv := @pv
  generalize @L2.PE = QE, @L2.PT = QT, @L2.PW = QW, @L2.PA = QA, @L2.PS = QS, @L2.PSs = QSs, @L2.PG = QG, @L2.PGs = QGs, @L2.PI = QI, @L2.PO = QO, @L2.PIf = QIf at qpss_one qps_ret qpe_call qpa2 qpv ⊢
  refine ⟨_,
    (qpss_one (qps_ret (qpe_call (ok_side_of T) (hr.mono (by decide)) rfl T.side_of.mg T.side_of.fn.kp T.side_of.bn .nil pass0 (qpa2 (qpe_call (ok_line_of T) (hr.mono (by decide)) rfl T.line_of.mg T.line_of.fn.kp T.line_of.bn .nil pass0 (qpa2 (qpv 0) ns_Name (qpv 1) ns_Name)) ns_Call (qpv 2) ns_Name))))
    , ?_⟩
  clear  qpss_one qps_ret qpe_call qpa2 qpv QE QT QW QA QS QSs QG QGs QI QO QIf
  simp only [sp_line, sp_side, tSeq, tNext, tRet, tRetN, tIfS, tAsg, gName, tDrop, tVar, tC, tOp, tUn, rI, rI0, rU, rEq, rNe, tTest, tB, tNot, tAnd, tOr, tAndV, tOrV, tNotV, tIf, tCB, tCall, tNil, tCons, tTup, tLst, gTup, gCons, gNil, L2.start, rIsi, rIxT, rIxL, cx_K, tyN_non, tyN_bl, tyN_int, tyN_str, isi_ii, isi_ib, isi_it, isi_il, isi_bi, isi_bb, isi_tt, isi_ni, isi_si, isi_ti, isi_li, isi_di, isi_ll, scal_ii, scal_bb, sz0, sz1, sz2, sz3, sz4, List.map_cons, List.map_nil, List.length_cons, List.length_nil, List.replicate, List.cons_append, List.nil_append, List.append_nil, List.getElem?_cons_zero, List.getElem?_cons_succ, List.set_cons_zero, List.set_cons_succ, Option.some.injEq, V.int.injEq, V.bl.injEq, V.ref.injEq, V.ty.injEq, List.cons.injEq, and_true, true_and, exists_eq_left, exists_eq_left', exists_and_left, exists_and_right, exists_eq, exists_eq', and_assoc, Nat.reduceAdd, Nat.reduceSub, Bool.not_true, Bool.not_false, Bool.false_eq_true, if_true, if_false, reduceIte, Nat.zero_add, decide_true, decide_false, selC, comp_K, tYes, Option.join_some, rIxTH, rIxLH, rLenH, rIsiF, at0, at1, at2, at3, at4, at5, at6, at7, at8, HO.tup.injEq, HO.lst.injEq, reduceCtorEq, false_or, or_false, tyF_non, tyF_bl, tyF_int, tyF_str, exists_const, Int.reduceAdd, Int.reduceMul, Int.reduceSub, gSub, rSetL, tSl, tPart, tNoPart, rSlH, upd_same, upd_upd, rIntB, rListH, tBM, tBM0, rAppend, rClear, tPar, gTupH]
  exact ⟨x1, y1, w1, hp, x2, y2, w2, hq, fun l H2 g2 hl => ⟨_, _, _, hl, ln_bd hp.2 hq.2, _, _, _, (hr'.same g2).1, hr'.2, k H2 g2⟩⟩
theorem ok_law_cell_at (T : Txt K mg ad fd) : FnOk P w K mg base CX0 1 (ad 8) (fd 8) ["_law_script", "_law_k"] (sp_cell K) := by
  refine T.law_cell_at.fn.ok sc_law_cell_at (fun vs H Q E h => ?_) (fun cdv A outer s H vs Q E hr h => ?_)
  · obtain ⟨l, ns, k, rfl, _⟩ := h
    rfl
  obtain ⟨l, ns, k, rfl, hl, h0, q⟩ := h
  have qpss2 := @pss2
  have qps_if := @ps_if
  have qpt_cmpR := @pt_cmpR
  have qpv := @pv
  have qpe_callB := @pe_callB
  have qpa1 := @pa1
  have qpss_one := @pss_one
  have qps_ret := @ps_ret
  have qpe_ix := @pe_ix
  have qpss_nil := @pss_nil
  have qpe_int := @pe_int
  generalize @L2.PE = QE, @L2.PT = QT, @L2.PW = QW, @L2.PA = QA, @L2.PS = QS, @L2.PSs = QSs, @L2.PG = QG, @L2.PGs = QGs, @L2.PI = QI, @L2.PO = QO, @L2.PIf = QIf at qpss2 qps_if qpt_cmpR qpv qpe_callB qpa1 qpss_one qps_ret qpe_ix qpss_nil qpe_int ⊢
  refine ⟨_,
    (qpss2
      (qps_if (qpt_cmpR op_lt (qpv 1) (qpe_callB call_len_seq rfl T.b_len bt_len (qpa1 (qpv 0) ns_Name)) (nomark _)) (qpss_one (qps_ret (qpe_ix ix_list (qpv 0) (qpv 1) (fun _ _ => rfl)))) qpss_nil)
      (qps_ret qpe_int))
    , ?_⟩
  clear  qpss2 qps_if qpt_cmpR qpv qpe_callB qpa1 qpss_one qps_ret qpe_ix qpss_nil qpe_int QE QT QW QA QS QSs QG QGs QI QO QIf
  simp only [tSeq, tNext, tRet, tRetN, tIfS, tAsg, gName, tDrop, tVar, tC, tOp, tUn, rI, rI0, rU, rEq, rNe, tTest, tB, tNot, tAnd, tOr, tAndV, tOrV, tNotV, tIf, tCB, tCall, tNil, tCons, tTup, tLst, gTup, gCons, gNil, L2.start, rIsi, rIxT, rIxL, cx_K, tyN_non, tyN_bl, tyN_int, tyN_str, isi_ii, isi_ib, isi_it, isi_il, isi_bi, isi_bb, isi_tt, isi_ni, isi_si, isi_ti, isi_li, isi_di, isi_ll, scal_ii, scal_bb, sz0, sz1, sz2, sz3, sz4, List.map_cons, List.map_nil, List.length_cons, List.length_nil, List.replicate, List.cons_append, List.nil_append, List.append_nil, List.getElem?_cons_zero, List.getElem?_cons_succ, List.set_cons_zero, List.set_cons_succ, Option.some.injEq, V.int.injEq, V.bl.injEq, V.ref.injEq, V.ty.injEq, List.cons.injEq, and_true, true_and, exists_eq_left, exists_eq_left', exists_and_left, exists_and_right, exists_eq, exists_eq', and_assoc, Nat.reduceAdd, Nat.reduceSub, Bool.not_true, Bool.not_false, Bool.false_eq_true, if_true, if_false, reduceIte, Nat.zero_add, decide_true, decide_false]
  refine ⟨_, .inl hl, ?_⟩
  rw [List.length_map]
  refine ite2 (fun c => ?_) (fun c => ?_)
  · have c' : k < (ns.length : Int) := of_decide_eq_true c
    have hk : k.toNat < ns.length := by omega
    refine ⟨_, hl, _, ?_, q⟩
    have ek : k = ((k.toNat : Nat) : Int) := by omega
    have z : atI (ns.map V.int) ((k.toNat : Nat) : Int) = some (.int (ns.getD k.toNat 0)) := atI_nat (by
      rw [List.getElem?_map, List.getElem?_eq_getElem hk, List.getD_eq_getElem?_getD, List.getElem?_eq_getElem hk] <;> rfl)
    rw [← ek] at z
    exact z
  · have c' : ¬ k < (ns.length : Int) := fun z => c (decide_eq_true z)
    have e : ns.getD k.toNat 0 = 0 := by rw [List.getD_eq_getElem?_getD, List.getElem?_eq_none (by omega)]; rfl
    rw [e] at q
    exact q
theorem ok_law_divisor (T : Txt K mg ad fd) : FnOk P w K mg base CX0 1 (ad 10) (fd 10) ["_law_one", "_law_other"] sp_divisor := by
  refine T.law_divisor.fn.ok sc_law_divisor (fun vs H Q E h => ?_) (fun cdv A outer s H vs Q E hr h => ?_)
  · obtain ⟨a, b, rfl, _⟩ := h
    rfl
  obtain ⟨a, b, rfl, q⟩ := h
  have qpss2 := @pss2
  have qps_while := @ps_while
  have qpt_cmpR := @pt_cmpR
  have qpv := @pv
  have qpe_int := @pe_int
  have qpss_one := @pss_one
  have qps_par := @ps_par
  have qpa2 := @pa2
  have qpe_op := @pe_op
  have qps_ret := @ps_ret
  have qpe_callB := @pe_callB
  have qpa1 := @pa1
  generalize @L2.PE = QE, @L2.PT = QT, @L2.PW = QW, @L2.PA = QA, @L2.PS = QS, @L2.PSs = QSs, @L2.PG = QG, @L2.PGs = QGs, @L2.PI = QI, @L2.PO = QO, @L2.PIf = QIf at qpss2 qps_while qpt_cmpR qpv qpe_int qpss_one qps_par qpa2 qpe_op qps_ret qpe_callB qpa1 ⊢
  refine ⟨_,
    (qpss2
      (qps_while PassesOwn.never (qpt_cmpR op_ne (qpv 1) qpe_int (nomark _)) (qpss_one (qps_par (i := 0) (j := 1) rfl sc_law_divisor.nd rfl rfl (by decide) rfl rfl (qpa2 (qpv 1) ns_Name (qpe_op op_modN (qpv 0) (qpv 1)) ns_BinOp) rfl)))
      (qps_ret (qpe_callB call_abs rfl T.b_abs bt_abs (qpa1 (qpv 0) ns_Name))))
    , ?_⟩
  clear  qpss2 qps_while qpt_cmpR qpv qpe_int qpss_one qps_par qpa2 qpe_op qps_ret qpe_callB qpa1 QE QT QW QA QS QSs QG QGs QI QO QIf
  simp only [tSeq, tNext, tRet, tRetN, tIfS, tAsg, gName, tDrop, tVar, tC, tOp, tUn, rI, rI0, rU, rEq, rNe, tTest, tB, tNot, tAnd, tOr, tAndV, tOrV, tNotV, tIf, tCB, tCall, tNil, tCons, tTup, tLst, gTup, gCons, gNil, L2.start, rIsi, rIxT, rIxL, cx_K, tyN_non, tyN_bl, tyN_int, tyN_str, isi_ii, isi_ib, isi_it, isi_il, isi_bi, isi_bb, isi_tt, isi_ni, isi_si, isi_ti, isi_li, isi_di, isi_ll, scal_ii, scal_bb, sz0, sz1, sz2, sz3, sz4, List.map_cons, List.map_nil, List.length_cons, List.length_nil, List.replicate, List.cons_append, List.nil_append, List.append_nil, List.getElem?_cons_zero, List.getElem?_cons_succ, List.set_cons_zero, List.set_cons_succ, Option.some.injEq, V.int.injEq, V.bl.injEq, V.ref.injEq, V.ty.injEq, List.cons.injEq, and_true, true_and, exists_eq_left, exists_eq_left', exists_and_left, exists_and_right, exists_eq, exists_eq', and_assoc, Nat.reduceAdd, Nat.reduceSub, Bool.not_true, Bool.not_false, Bool.false_eq_true, if_true, if_false, reduceIte, Nat.zero_add, decide_true, decide_false, selC, comp_K, tYes, Option.join_some, rIxTH, rIxLH, rLenH, rIsiF, at0, at1, at2, at3, at4, at5, at6, at7, at8, HO.tup.injEq, HO.lst.injEq, reduceCtorEq, false_or, or_false, tyF_non, tyF_bl, tyF_int, tyF_str, exists_const, Int.reduceAdd, Int.reduceMul, Int.reduceSub, gSub, rSetL, tSl, tPart, tNoPart, rSlH, upd_same, upd_upd, rIntB, rListH, tBM, tBM0, rAppend, rClear, tPar, gTupH]
  refine while_by (iv_ldiv a b H) (fun σ _ => (getI σ 1).natAbs) ⟨rfl, _, _, rfl, rfl⟩ ?_
    (fun σ H Q Q' m h => by obtain ⟨v, e, s, k, e2, q⟩ := h; exact ⟨v, e, s, k, e2, m _ _ q⟩)
  rintro σ H' ⟨rfl, x, y, rfl, e⟩
  simp only [tSeq, tNext, tRet, tRetN, tIfS, tAsg, gName, tDrop, tVar, tC, tOp, tUn, rI, rI0, rU, rEq, rNe, tTest, tB, tNot, tAnd, tOr, tAndV, tOrV, tNotV, tIf, tCB, tCall, tNil, tCons, tTup, tLst, gTup, gCons, gNil, L2.start, rIsi, rIxT, rIxL, cx_K, tyN_non, tyN_bl, tyN_int, tyN_str, isi_ii, isi_ib, isi_it, isi_il, isi_bi, isi_bb, isi_tt, isi_ni, isi_si, isi_ti, isi_li, isi_di, isi_ll, scal_ii, scal_bb, sz0, sz1, sz2, sz3, sz4, List.map_cons, List.map_nil, List.length_cons, List.length_nil, List.replicate, List.cons_append, List.nil_append, List.append_nil, List.getElem?_cons_zero, List.getElem?_cons_succ, List.set_cons_zero, List.set_cons_succ, Option.some.injEq, V.int.injEq, V.bl.injEq, V.ref.injEq, V.ty.injEq, List.cons.injEq, and_true, true_and, exists_eq_left, exists_eq_left', exists_and_left, exists_and_right, exists_eq, exists_eq', and_assoc, Nat.reduceAdd, Nat.reduceSub, Bool.not_true, Bool.not_false, Bool.false_eq_true, if_true, if_false, reduceIte, Nat.zero_add, decide_true, decide_false, selC, comp_K, tYes, Option.join_some, rIxTH, rIxLH, rLenH, rIsiF, at0, at1, at2, at3, at4, at5, at6, at7, at8, HO.tup.injEq, HO.lst.injEq, reduceCtorEq, false_or, or_false, tyF_non, tyF_bl, tyF_int, tyF_str, exists_const, Int.reduceAdd, Int.reduceMul, Int.reduceSub, gSub, rSetL, tSl, tPart, tNoPart, rSlH, upd_same, upd_upd, rIntB, rListH, tBM, tBM0, rAppend, rClear, tPar, gTupH]
  refine ite2 (fun c => ?_) (fun c => ?_)
  · have hy : y ≠ 0 := by simpa using c
    exact ⟨hy, ⟨rfl, _, _, rfl, (G_fmod x y).trans e⟩, fmod_small hy⟩
  · have hy : y = 0 := by simpa using c
    subst hy
    rw [G_end, e]
    exact q
theorem ok_law_lowest (T : Txt K mg ad fd) : FnOk P w K mg base CX0 2 (ad 11) (fd 11) ["_law_x", "_law_y", "_law_w"] sp_klowest := by
  refine T.law_lowest.fn.ok sc_law_lowest (fun vs H Q E h => ?_) (fun cdv A outer s H vs Q E hr h => ?_)
  · obtain ⟨n, x, y, w, rfl, _⟩ := h
    rfl
  obtain ⟨n, x, y, w, rfl, hn, b, hw, k⟩ := h
  have qpss2 := @pss2
  have qps_set := @ps_set
  have qpe_call := @pe_call
  have qpa2 := @pa2
  have qpv := @pv
  have qps_ret := @ps_ret
  have qpe_tup := @pe_tup
  have qpa3 := @pa3
  have qpe_op := @pe_op
  generalize @L2.PE = QE, @L2.PT = QT, @L2.PW = QW, @L2.PA = QA, @L2.PS = QS, @L2.PSs = QSs, @L2.PG = QG, @L2.PGs = QGs, @L2.PI = QI, @L2.PO = QO, @L2.PIf = QIf at qpss2 qps_set qpe_call qpa2 qpv qps_ret qpe_tup qpa3 qpe_op ⊢
  refine ⟨_,
    (qpss2
      (qps_set (i := 3) sc_law_lowest.nd rfl (Or.inl rfl) (qpe_call (ok_law_divisor T) (hr.mono (by decide)) rfl T.law_divisor.mg T.law_divisor.fn.kp T.law_divisor.bn .nil pass0 (qpa2 (qpe_call (ok_law_divisor T) (hr.mono (by decide)) rfl T.law_divisor.mg T.law_divisor.fn.kp T.law_divisor.bn .nil pass0 (qpa2 (qpv 0) ns_Name (qpv 1) ns_Name)) ns_Call (qpv 2) ns_Name)))
      (qps_ret (qpe_tup (qpa3 (qpe_op op_fdivB (qpv 0) (qpv 3)) ns_BinOp (qpe_op op_fdivB (qpv 1) (qpv 3)) ns_BinOp (qpe_op op_fdivB (qpv 2) (qpv 3)) ns_BinOp))))
    , ?_⟩
  clear  qpss2 qps_set qpe_call qpa2 qpv qps_ret qpe_tup qpa3 qpe_op QE QT QW QA QS QSs QG QGs QI QO QIf
  simp only [sp_divisor, tSeq, tNext, tRet, tRetN, tIfS, tAsg, gName, tDrop, tVar, tC, tOp, tUn, rI, rI0, rU, rEq, rNe, tTest, tB, tNot, tAnd, tOr, tAndV, tOrV, tNotV, tIf, tCB, tCall, tNil, tCons, tTup, tLst, gTup, gCons, gNil, L2.start, rIsi, rIxT, rIxL, cx_K, tyN_non, tyN_bl, tyN_int, tyN_str, isi_ii, isi_ib, isi_it, isi_il, isi_bi, isi_bb, isi_tt, isi_ni, isi_si, isi_ti, isi_li, isi_di, isi_ll, scal_ii, scal_bb, sz0, sz1, sz2, sz3, sz4, List.map_cons, List.map_nil, List.length_cons, List.length_nil, List.replicate, List.cons_append, List.nil_append, List.append_nil, List.getElem?_cons_zero, List.getElem?_cons_succ, List.set_cons_zero, List.set_cons_succ, Option.some.injEq, V.int.injEq, V.bl.injEq, V.ref.injEq, V.ty.injEq, List.cons.injEq, and_true, true_and, exists_eq_left, exists_eq_left', exists_and_left, exists_and_right, exists_eq, exists_eq', and_assoc, Nat.reduceAdd, Nat.reduceSub, Bool.not_true, Bool.not_false, Bool.false_eq_true, if_true, if_false, reduceIte, Nat.zero_add, decide_true, decide_false, selC, comp_K, tYes, Option.join_some, rIxTH, rIxLH, rLenH, rIsiF, at0, at1, at2, at3, at4, at5, at6, at7, at8, HO.tup.injEq, HO.lst.injEq, reduceCtorEq, false_or, or_false, tyF_non, tyF_bl, tyF_int, tyF_str, exists_const, Int.reduceAdd, Int.reduceMul, Int.reduceSub, gSub, rSetL, tSl, tPart, tNoPart, rSlH, upd_same, upd_upd, rIntB, rListH, tBM, tBM0, rAppend, rClear, tPar, gTupH]
  have lt := lt_mono (g3_lt (x := x) (y := y) hw b.2.2) hn
  exact ⟨cdivb (g3_ne hw) lt, cdivb (g3_ne hw) lt, cdivb (g3_ne hw) lt, fun p hp => k p _ _ _ _ (same_new hp _) ⟨upd_same, g3_pt hw b.1 b.2.1 b.2.2⟩⟩
theorem ok_law_point (T : Txt K mg ad fd) : FnOk P w K mg base CX0 3 (ad 12) (fd 12) ["_law_number", "_law_kind"] sp_kpoint := by
  refine T.law_point.fn.ok sc_law_point (fun vs H Q E h => ?_) (fun cdv A outer s H vs Q E hr h => ?_)
  · obtain ⟨n, k, rfl, _⟩ := h
    rfl
  obtain ⟨n, kd, rfl, k⟩ := h
  have qpss3 := @pss3
  have qps_if := @ps_if
  have qpt_cmpR := @pt_cmpR
  have qpv := @pv
  have qpe_int := @pe_int
  have qpss_one := @pss_one
  have qps_ret := @ps_ret
  have qpe_call := @pe_call
  have qpa3 := @pa3
  have qpe_op := @pe_op
  have qpss_nil := @pss_nil
  have qps_set := @ps_set
  have qpe_tup := @pe_tup
  generalize @L2.PE = QE, @L2.PT = QT, @L2.PW = QW, @L2.PA = QA, @L2.PS = QS, @L2.PSs = QSs, @L2.PG = QG, @L2.PGs = QGs, @L2.PI = QI, @L2.PO = QO, @L2.PIf = QIf at qpss3 qps_if qpt_cmpR qpv qpe_int qpss_one qps_ret qpe_call qpa3 qpe_op qpss_nil qps_set qpe_tup ⊢
  refine ⟨_,
    (qpss3
      (qps_if (qpt_cmpR op_eq (qpv 1) qpe_int (nomark _)) (qpss_one (qps_ret (qpe_call (ok_law_lowest T) (hr.mono (by decide)) rfl T.law_lowest.mg T.law_lowest.fn.kp T.law_lowest.bn .nil pass0 (qpa3 (qpe_op op_sub (qpe_op op_mod (qpv 0) qpe_int) qpe_int) ns_BinOp (qpe_op op_sub (qpe_op op_mod (qpe_op op_fdiv (qpv 0) qpe_int) qpe_int) qpe_int) ns_BinOp (qpe_op op_add qpe_int (qpe_op op_mod (qpe_op op_fdiv (qpv 0) qpe_int) qpe_int)) ns_BinOp)))) qpss_nil)
      (qps_if (qpt_cmpR op_eq (qpv 1) qpe_int (nomark _)) (qpss3
      (qps_set (i := 2) sc_law_point.nd rfl (Or.inl rfl) (qpe_op op_sub (qpe_op op_mod (qpe_op op_mul (qpv 0) qpe_int) qpe_int) qpe_int))
      (qps_set (i := 3) sc_law_point.nd rfl (Or.inl rfl) (qpe_op op_sub (qpe_op op_mod (qpe_op op_mul (qpv 0) qpe_int) qpe_int) qpe_int))
      (qps_ret (qpe_call (ok_law_lowest T) (hr.mono (by decide)) rfl T.law_lowest.mg T.law_lowest.fn.kp T.law_lowest.bn .nil pass0 (qpa3 (qpv 2) ns_Name (qpv 3) ns_Name (qpe_op op_add qpe_int (qpe_op op_mod (qpv 0) qpe_int)) ns_BinOp)))) qpss_nil)
      (qps_ret (qpe_tup (qpa3 (qpe_op op_sub (qpe_op op_mod (qpv 0) qpe_int) qpe_int) ns_BinOp (qpe_op op_sub (qpe_op op_mod (qpe_op op_fdiv (qpv 0) qpe_int) qpe_int) qpe_int) ns_BinOp qpe_int ns_Constant))))
    , ?_⟩
  clear  qpss3 qps_if qpt_cmpR qpv qpe_int qpss_one qps_ret qpe_call qpa3 qpe_op qpss_nil qps_set qpe_tup QE QT QW QA QS QSs QG QGs QI QO QIf
  simp only [tSeq, tNext, tRet, tRetN, tIfS, tAsg, gName, tDrop, tVar, tC, tOp, tUn, rI, rI0, rU, rEq, rNe, tTest, tB, tNot, tAnd, tOr, tAndV, tOrV, tNotV, tIf, tCB, tCall, tNil, tCons, tTup, tLst, gTup, gCons, gNil, L2.start, rIsi, rIxT, rIxL, cx_K, tyN_non, tyN_bl, tyN_int, tyN_str, isi_ii, isi_ib, isi_it, isi_il, isi_bi, isi_bb, isi_tt, isi_ni, isi_si, isi_ti, isi_li, isi_di, isi_ll, scal_ii, scal_bb, sz0, sz1, sz2, sz3, sz4, List.map_cons, List.map_nil, List.length_cons, List.length_nil, List.replicate, List.cons_append, List.nil_append, List.append_nil, List.getElem?_cons_zero, List.getElem?_cons_succ, List.set_cons_zero, List.set_cons_succ, Option.some.injEq, V.int.injEq, V.bl.injEq, V.ref.injEq, V.ty.injEq, List.cons.injEq, and_true, true_and, exists_eq_left, exists_eq_left', exists_and_left, exists_and_right, exists_eq, exists_eq', and_assoc, Nat.reduceAdd, Nat.reduceSub, Bool.not_true, Bool.not_false, Bool.false_eq_true, if_true, if_false, reduceIte, Nat.zero_add, decide_true, decide_false, selC, comp_K, tYes, Option.join_some, rIxTH, rIxLH, rLenH, rIsiF, at0, at1, at2, at3, at4, at5, at6, at7, at8, HO.tup.injEq, HO.lst.injEq, reduceCtorEq, false_or, or_false, tyF_non, tyF_bl, tyF_int, tyF_str, exists_const, Int.reduceAdd, Int.reduceMul, Int.reduceSub, gSub, rSetL, tSl, tPart, tNoPart, rSlH, upd_same, upd_upd, rIntB, rListH, tBM, tBM0, rAppend, rClear, tPar, gTupH]
  have e60 : (2 : Nat) ^ 60 = 1152921504606846976 := rfl
  refine ite2 (fun _ => ⟨by decide, ⟨by decide, by decide⟩, by decide, ⟨by decide, by decide⟩, by decide, 60, _, _, _, rfl, by decide, ⟨by omega, by omega, by omega⟩, by omega, k⟩) (fun _ => ite2 (fun _ => ?_) (fun _ => ?_))
  · exact ⟨.inr ⟨by decide, by decide⟩, by decide, .inr ⟨by decide, by decide⟩, by decide, by decide, 60, _, _, _, rfl, by decide, ⟨by omega, by omega, by omega⟩, by omega, k⟩
  · exact ⟨by decide, ⟨by decide, by decide⟩, by decide, fun p hp => k p _ _ _ _ (same_new hp _) ⟨upd_same, by decide, g3_one _ _, by omega, by omega, by omega⟩⟩
theorem ok_law_before (T : Txt K mg ad fd) : FnOk P w K mg base CX0 1 (ad 13) (fd 13) ["_law_one", "_law_other"] sp_before := by
  refine T.law_before.fn.ok sc_law_before (fun vs H Q E h => ?_) (fun cdv A outer s H vs Q E hr h => ?_)
  · obtain ⟨p, q, x1, y1, w1, x2, y2, w2, rfl, _⟩ := h
    rfl
  obtain ⟨p, q, x1, y1, w1, x2, y2, w2, rfl, ⟨hp, pp⟩, ⟨hq, pq⟩, k⟩ := h
  have qpss2 := @pss2
  have qps_if := @ps_if
  have qpt_cmpR := @pt_cmpR
  have qpe_op := @pe_op
  have qpe_ix := @pe_ix
  have qpv := @pv
  have qpe_int := @pe_int
  have qpss_one := @pss_one
  have qps_ret := @ps_ret
  have qpe_cmpR := @pe_cmpR
  have qpss_nil := @pss_nil
  generalize @L2.PE = QE, @L2.PT = QT, @L2.PW = QW, @L2.PA = QA, @L2.PS = QS, @L2.PSs = QSs, @L2.PG = QG, @L2.PGs = QGs, @L2.PI = QI, @L2.PO = QO, @L2.PIf = QIf at qpss2 qps_if qpt_cmpR qpe_op qpe_ix qpv qpe_int qpss_one qps_ret qpe_cmpR qpss_nil ⊢
  refine ⟨_,
    (qpss2
      (qps_if (qpt_cmpR op_ne (qpe_op op_mulB (qpe_ix ix_tupH (qpv 0) qpe_int (fun _ _ => rfl)) (qpe_ix ix_tupH (qpv 1) qpe_int (fun _ _ => rfl))) (qpe_op op_mulB (qpe_ix ix_tupH (qpv 1) qpe_int (fun _ _ => rfl)) (qpe_ix ix_tupH (qpv 0) qpe_int (fun _ _ => rfl))) (nomark _)) (qpss_one (qps_ret (qpe_cmpR op_lt (qpe_op op_mulB (qpe_ix ix_tupH (qpv 0) qpe_int (fun _ _ => rfl)) (qpe_ix ix_tupH (qpv 1) qpe_int (fun _ _ => rfl))) (qpe_op op_mulB (qpe_ix ix_tupH (qpv 1) qpe_int (fun _ _ => rfl)) (qpe_ix ix_tupH (qpv 0) qpe_int (fun _ _ => rfl))) (nomark _)))) qpss_nil)
      (qps_ret (qpe_cmpR op_lt (qpe_op op_mulB (qpe_ix ix_tupH (qpv 0) qpe_int (fun _ _ => rfl)) (qpe_ix ix_tupH (qpv 1) qpe_int (fun _ _ => rfl))) (qpe_op op_mulB (qpe_ix ix_tupH (qpv 1) qpe_int (fun _ _ => rfl)) (qpe_ix ix_tupH (qpv 0) qpe_int (fun _ _ => rfl))) (nomark _))))
    , ?_⟩
  clear  qpss2 qps_if qpt_cmpR qpe_op qpe_ix qpv qpe_int qpss_one qps_ret qpe_cmpR qpss_nil QE QT QW QA QS QSs QG QGs QI QO QIf
  simp only [tSeq, tNext, tRet, tRetN, tIfS, tAsg, gName, tDrop, tVar, tC, tOp, tUn, rI, rI0, rU, rEq, rNe, tTest, tB, tNot, tAnd, tOr, tAndV, tOrV, tNotV, tIf, tCB, tCall, tNil, tCons, tTup, tLst, gTup, gCons, gNil, L2.start, rIsi, rIxT, rIxL, cx_K, tyN_non, tyN_bl, tyN_int, tyN_str, isi_ii, isi_ib, isi_it, isi_il, isi_bi, isi_bb, isi_tt, isi_ni, isi_si, isi_ti, isi_li, isi_di, isi_ll, scal_ii, scal_bb, sz0, sz1, sz2, sz3, sz4, List.map_cons, List.map_nil, List.length_cons, List.length_nil, List.replicate, List.cons_append, List.nil_append, List.append_nil, List.getElem?_cons_zero, List.getElem?_cons_succ, List.set_cons_zero, List.set_cons_succ, Option.some.injEq, V.int.injEq, V.bl.injEq, V.ref.injEq, V.ty.injEq, List.cons.injEq, and_true, true_and, exists_eq_left, exists_eq_left', exists_and_left, exists_and_right, exists_eq, exists_eq', and_assoc, Nat.reduceAdd, Nat.reduceSub, Bool.not_true, Bool.not_false, Bool.false_eq_true, if_true, if_false, reduceIte, Nat.zero_add, decide_true, decide_false, selC, comp_K, tYes, Option.join_some, rIxTH, rIxLH, rLenH, rIsiF, at0, at1, at2, at3, at4, at5, at6, at7, at8, HO.tup.injEq, HO.lst.injEq, reduceCtorEq, false_or, or_false, tyF_non, tyF_bl, tyF_int, tyF_str, exists_const, Int.reduceAdd, Int.reduceMul, Int.reduceSub, gSub, rSetL, tSl, tPart, tNoPart, rSlH, upd_same, upd_upd, rIntB, rListH, tBM, tBM0, rAppend, rClear, tPar, gTupH, hp, hq]
  refine ⟨cbig pp.1 pq.2.2, cbig pq.1 pp.2.2, ?_⟩
  unfold bef at k
  refine ite2 (fun c => ?_) (fun c => ?_)
  · have c' : ¬ x1 * w2 = x2 * w1 := by simpa using c
    rw [if_neg c'] at k
    exact ⟨cbig pp.1 pq.2.2, cbig pq.1 pp.2.2, k⟩
  · have c' : x1 * w2 = x2 * w1 := by simpa using c
    rw [if_pos c'] at k
    exact ⟨cbig pp.2.1 pq.2.2, cbig pq.2.1 pp.2.2, k⟩
theorem ok_law_turn (T : Txt K mg ad fd) : FnOk P w K mg base CX0 1 (ad 14) (fd 14) ["_law_a", "_law_b", "_law_c"] sp_kturn := by
  refine T.law_turn.fn.ok sc_law_turn (fun vs H Q E h => ?_) (fun cdv A outer s H vs Q E hr h => ?_)
  · obtain ⟨p, q, r, x1, y1, w1, x2, y2, w2, x3, y3, w3, rfl, _⟩ := h
    rfl
  obtain ⟨p, q, r, x1, y1, w1, x2, y2, w2, x3, y3, w3, rfl, hp, hq, hr', k⟩ := h
  have qpss4 := @pss4
  have qps_set := @ps_set
  have qpe_op := @pe_op
  have qpe_ix := @pe_ix
  have qpv := @pv
  have qpe_int := @pe_int
  have qps_ret := @ps_ret
  have qpe_cmpR := @pe_cmpR
  generalize @L2.PE = QE, @L2.PT = QT, @L2.PW = QW, @L2.PA = QA, @L2.PS = QS, @L2.PSs = QSs, @L2.PG = QG, @L2.PGs = QGs, @L2.PI = QI, @L2.PO = QO, @L2.PIf = QIf at qpss4 qps_set qpe_op qpe_ix qpv qpe_int qps_ret qpe_cmpR ⊢
  refine ⟨_,
    (qpss4
      (qps_set (i := 3) sc_law_turn.nd rfl (Or.inl rfl) (qpe_op op_mulB (qpe_ix ix_tupH (qpv 0) qpe_int (fun _ _ => rfl)) (qpe_op op_sub (qpe_op op_mulB (qpe_ix ix_tupH (qpv 1) qpe_int (fun _ _ => rfl)) (qpe_ix ix_tupH (qpv 2) qpe_int (fun _ _ => rfl))) (qpe_op op_mulB (qpe_ix ix_tupH (qpv 2) qpe_int (fun _ _ => rfl)) (qpe_ix ix_tupH (qpv 1) qpe_int (fun _ _ => rfl))))))
      (qps_set (i := 3) sc_law_turn.nd rfl (Or.inl rfl) (qpe_op op_sub (qpv 3) (qpe_op op_mulB (qpe_ix ix_tupH (qpv 0) qpe_int (fun _ _ => rfl)) (qpe_op op_sub (qpe_op op_mulB (qpe_ix ix_tupH (qpv 1) qpe_int (fun _ _ => rfl)) (qpe_ix ix_tupH (qpv 2) qpe_int (fun _ _ => rfl))) (qpe_op op_mulB (qpe_ix ix_tupH (qpv 2) qpe_int (fun _ _ => rfl)) (qpe_ix ix_tupH (qpv 1) qpe_int (fun _ _ => rfl)))))))
      (qps_set (i := 3) sc_law_turn.nd rfl (Or.inl rfl) (qpe_op op_add (qpv 3) (qpe_op op_mulB (qpe_ix ix_tupH (qpv 0) qpe_int (fun _ _ => rfl)) (qpe_op op_sub (qpe_op op_mulB (qpe_ix ix_tupH (qpv 1) qpe_int (fun _ _ => rfl)) (qpe_ix ix_tupH (qpv 2) qpe_int (fun _ _ => rfl))) (qpe_op op_mulB (qpe_ix ix_tupH (qpv 2) qpe_int (fun _ _ => rfl)) (qpe_ix ix_tupH (qpv 1) qpe_int (fun _ _ => rfl)))))))
      (qps_ret (qpe_op op_sub_bb (qpe_cmpR op_gt (qpv 3) qpe_int (nomark _)) (qpe_cmpR op_lt (qpv 3) qpe_int (nomark _)))))
    , ?_⟩
  clear  qpss4 qps_set qpe_op qpe_ix qpv qpe_int qps_ret qpe_cmpR QE QT QW QA QS QSs QG QGs QI QO QIf
  simp only [tSeq, tNext, tRet, tRetN, tIfS, tAsg, gName, tDrop, tVar, tC, tOp, tUn, rI, rI0, rU, rEq, rNe, tTest, tB, tNot, tAnd, tOr, tAndV, tOrV, tNotV, tIf, tCB, tCall, tNil, tCons, tTup, tLst, gTup, gCons, gNil, L2.start, rIsi, rIxT, rIxL, cx_K, tyN_non, tyN_bl, tyN_int, tyN_str, isi_ii, isi_ib, isi_it, isi_il, isi_bi, isi_bb, isi_tt, isi_ni, isi_si, isi_ti, isi_li, isi_di, isi_ll, scal_ii, scal_bb, sz0, sz1, sz2, sz3, sz4, List.map_cons, List.map_nil, List.length_cons, List.length_nil, List.replicate, List.cons_append, List.nil_append, List.append_nil, List.getElem?_cons_zero, List.getElem?_cons_succ, List.set_cons_zero, List.set_cons_succ, Option.some.injEq, V.int.injEq, V.bl.injEq, V.ref.injEq, V.ty.injEq, List.cons.injEq, and_true, true_and, exists_eq_left, exists_eq_left', exists_and_left, exists_and_right, exists_eq, exists_eq', and_assoc, Nat.reduceAdd, Nat.reduceSub, Bool.not_true, Bool.not_false, Bool.false_eq_true, if_true, if_false, reduceIte, Nat.zero_add, decide_true, decide_false, selC, comp_K, tYes, Option.join_some, rIxTH, rIxLH, rLenH, rIsiF, at0, at1, at2, at3, at4, at5, at6, at7, at8, HO.tup.injEq, HO.lst.injEq, reduceCtorEq, false_or, or_false, tyF_non, tyF_bl, tyF_int, tyF_str, exists_const, Int.reduceAdd, Int.reduceMul, Int.reduceSub, gSub, rSetL, tSl, tPart, tNoPart, rSlH, upd_same, upd_upd, rIntB, rListH, tBM, tBM0, rAppend, rClear, tPar, gTupH, hp.1, hq.1, hr'.1, det3_cols, PyProof.Rows.b2i, decide_eq_true_eq]
  have c1 : (y2 * w3 - y3 * w2).natAbs < 2 ^ (6000 + 1) := sub_lt (mul_lt hq.2.2.1 hr'.2.2.2) (mul_lt hr'.2.2.1 hq.2.2.2)
  have c2 : (x2 * w3 - x3 * w2).natAbs < 2 ^ (6000 + 1) := sub_lt (mul_lt hq.2.1 hr'.2.2.2) (mul_lt hr'.2.1 hq.2.2.2)
  have c3 : (x2 * y3 - x3 * y2).natAbs < 2 ^ (6000 + 1) := sub_lt (mul_lt hq.2.1 hr'.2.2.1) (mul_lt hr'.2.1 hq.2.2.1)
  refine ⟨cbig hq.2.2.1 hr'.2.2.2, cbig hr'.2.2.1 hq.2.2.2, cbig hp.2.1 c1, cbig hq.2.1 hr'.2.2.2, cbig hr'.2.1 hq.2.2.2, cbig hp.2.2.1 c2, cbig hq.2.1 hr'.2.2.1, cbig hr'.2.1 hq.2.2.1, cbig hp.2.2.2 c3, ?_⟩
  rw [sgn_diff]
  exact k
def sp_stream : Sp := fun vs H Q _ => ∃ c : Int, vs = [.int c, .int 24] ∧ ∀ (R : Addr) (xs : List Int) (H' : Hp), H R = none → Same H H' → H' R = some (.lst (xs.map V.int)) → xs.length = 24 → Q (.ref R) H'
theorem ok_law_stream (T : Txt K mg ad fd) : FnOk P w K mg base CX0 1 (ad 9) (fd 9) ["_law_cell", "_law_many"] sp_stream := by
  refine T.law_stream.fn.ok sc_law_stream (fun vs H Q E h => ?_) (fun cdv A outer s H vs Q E hr h => ?_)
  · obtain ⟨c, rfl, _⟩ := h
    rfl
  obtain ⟨c, rfl, k⟩ := h
  have qpss4 := @pss4
  have qps_set := @ps_set
  have qpe_lst := @pe_lst
  have qpa_nil := @pa_nil
  have qpe_op := @pe_op
  have qpv := @pv
  have qpe_int := @pe_int
  have qps_for := @ps_for
  have qpi_range1 := @pi_range1
  have qpa1 := @pa1
  have qpg_name := @pg_name
  have qpss2 := @pss2
  have qps_expr := @ps_expr
  have qpe_bm := @pe_bm
  have qps_ret := @ps_ret
  have qpe_slice := @pe_slice
  have qpo_some := @po_some
  have qpo_none := @po_none
  generalize @L2.PE = QE, @L2.PT = QT, @L2.PW = QW, @L2.PA = QA, @L2.PS = QS, @L2.PSs = QSs, @L2.PG = QG, @L2.PGs = QGs, @L2.PI = QI, @L2.PO = QO, @L2.PIf = QIf at qpss4 qps_set qpe_lst qpa_nil qpe_op qpv qpe_int qps_for qpi_range1 qpa1 qpg_name qpss2 qps_expr qpe_bm qps_ret qpe_slice qpo_some qpo_none ⊢
  refine ⟨_,
    (qpss4
      (qps_set (i := 2) sc_law_stream.nd rfl (Or.inl rfl) (qpe_lst qpa_nil))
      (qps_set (i := 3) sc_law_stream.nd rfl (Or.inl rfl) (qpe_op op_add (qpe_op op_mod (qpv 0) qpe_int) qpe_int))
      (qps_for PassesOwn.never rfl (qpi_range1 rfl T.b_range (qpa1 (qpe_op op_add (qpv 1) qpe_int) ns_BinOp)) (qpg_name (i := 4) sc_law_stream.nd rfl (Or.inl rfl)) (qpss2
      (qps_set (i := 3) sc_law_stream.nd rfl (Or.inl rfl) (qpe_op op_mod (qpe_op op_add (qpe_op op_add (qpe_op op_mulB (qpv 3) (qpv 3)) (qpe_op op_mul qpe_int (qpv 3))) (qpv 4)) qpe_int))
      (qps_expr (qpe_bm PySem.F.plainAttrs_list PySem.F.slot_list_append PySem.F.type_list_append mt_append (qpv 2) (qpa1 (qpv 3) ns_Name)))))
      (qps_ret (qpe_slice sl_listH (qpv 2) (qpo_some qpe_int) qpo_none)))
    , ?_⟩
  clear  qpss4 qps_set qpe_lst qpa_nil qpe_op qpv qpe_int qps_for qpi_range1 qpa1 qpg_name qpss2 qps_expr qpe_bm qps_ret qpe_slice qpo_some qpo_none QE QT QW QA QS QSs QG QGs QI QO QIf
  simp only [tSeq, tNext, tRet, tRetN, tIfS, tAsg, gName, tDrop, tVar, tC, tOp, tUn, rI, rI0, rU, rEq, rNe, tTest, tB, tNot, tAnd, tOr, tAndV, tOrV, tNotV, tIf, tCB, tCall, tNil, tCons, tTup, tLst, gTup, gCons, gNil, L2.start, rIsi, rIxT, rIxL, cx_K, tyN_non, tyN_bl, tyN_int, tyN_str, isi_ii, isi_ib, isi_it, isi_il, isi_bi, isi_bb, isi_tt, isi_ni, isi_si, isi_ti, isi_li, isi_di, isi_ll, scal_ii, scal_bb, sz0, sz1, sz2, sz3, sz4, List.map_cons, List.map_nil, List.length_cons, List.length_nil, List.replicate, List.cons_append, List.nil_append, List.append_nil, List.getElem?_cons_zero, List.getElem?_cons_succ, List.set_cons_zero, List.set_cons_succ, Option.some.injEq, V.int.injEq, V.bl.injEq, V.ref.injEq, V.ty.injEq, List.cons.injEq, and_true, true_and, exists_eq_left, exists_eq_left', exists_and_left, exists_and_right, exists_eq, exists_eq', and_assoc, Nat.reduceAdd, Nat.reduceSub, Bool.not_true, Bool.not_false, Bool.false_eq_true, if_true, if_false, reduceIte, Nat.zero_add, decide_true, decide_false, selC, comp_K, tYes, Option.join_some, rIxTH, rIxLH, rLenH, rIsiF, at0, at1, at2, at3, at4, at5, at6, at7, at8, HO.tup.injEq, HO.lst.injEq, reduceCtorEq, false_or, or_false, tyF_non, tyF_bl, tyF_int, tyF_str, exists_const, Int.reduceAdd, Int.reduceMul, Int.reduceSub, gSub, rSetL, tSl, tPart, tNoPart, rSlH, upd_same, upd_upd, rIntB, rListH, tBM, tBM0, rAppend, rClear, tPar, gTupH]
  intro R hR
  have gR := same_new hR (HO.lst [])
  refine ⟨by decide, ?_⟩
  refine tFor_mk ?_
  simp only [iRng1, tSeq, tNext, tRet, tRetN, tIfS, tAsg, gName, tDrop, tVar, tC, tOp, tUn, rI, rI0, rU, rEq, rNe, tTest, tB, tNot, tAnd, tOr, tAndV, tOrV, tNotV, tIf, tCB, tCall, tNil, tCons, tTup, tLst, gTup, gCons, gNil, L2.start, rIsi, rIxT, rIxL, cx_K, tyN_non, tyN_bl, tyN_int, tyN_str, isi_ii, isi_ib, isi_it, isi_il, isi_bi, isi_bb, isi_tt, isi_ni, isi_si, isi_ti, isi_li, isi_di, isi_ll, scal_ii, scal_bb, sz0, sz1, sz2, sz3, sz4, List.map_cons, List.map_nil, List.length_cons, List.length_nil, List.replicate, List.cons_append, List.nil_append, List.append_nil, List.getElem?_cons_zero, List.getElem?_cons_succ, List.set_cons_zero, List.set_cons_succ, Option.some.injEq, V.int.injEq, V.bl.injEq, V.ref.injEq, V.ty.injEq, List.cons.injEq, and_true, true_and, exists_eq_left, exists_eq_left', exists_and_left, exists_and_right, exists_eq, exists_eq', and_assoc, Nat.reduceAdd, Nat.reduceSub, Bool.not_true, Bool.not_false, Bool.false_eq_true, if_true, if_false, reduceIte, Nat.zero_add, decide_true, decide_false, selC, comp_K, tYes, Option.join_some, rIxTH, rIxLH, rLenH, rIsiF, at0, at1, at2, at3, at4, at5, at6, at7, at8, HO.tup.injEq, HO.lst.injEq, reduceCtorEq, false_or, or_false, tyF_non, tyF_bl, tyF_int, tyF_str, exists_const, Int.reduceAdd, Int.reduceMul, Int.reduceSub, gSub, rSetL, tSl, tPart, tNoPart, rSlH, upd_same, upd_upd, rIntB, rListH, tBM, tBM0, rAppend, rClear, tPar, gTupH]
  have m0 := Int.emod_nonneg c (show (2147483647 : Int) ≠ 0 by decide)
  have m1 := Int.emod_lt_of_pos c (show (0 : Int) < 2147483647 by decide)
  refine ⟨by decide, by decide, for_range (n := 25) (fun i σ H' => Same H H' ∧ ∃ (ms : List Int) (m : Int) (u : Option V), σ = [some (.int c), some (.int 24), some (V.ref R), some (.int m), u] ∧ H' R = some (.lst (ms.map V.int)) ∧ ms.length = i ∧ 0 ≤ m ∧ m < 2147531918) ⟨gR, [], _, none, rfl, upd_same, rfl, by omega, by omega⟩ ?_ ?_⟩
  · rintro i σ H2 hi ⟨g2, ms, m, u, rfl, hR2, hn, m0, m1⟩
    have e40 : (2 : Nat) ^ 40 = 1099511627776 := rfl
    have lm : m.natAbs < 2 ^ 40 := by omega
    simp only [tSeq, tNext, tRet, tRetN, tIfS, tAsg, gName, tDrop, tVar, tC, tOp, tUn, rI, rI0, rU, rEq, rNe, tTest, tB, tNot, tAnd, tOr, tAndV, tOrV, tNotV, tIf, tCB, tCall, tNil, tCons, tTup, tLst, gTup, gCons, gNil, L2.start, rIsi, rIxT, rIxL, cx_K, tyN_non, tyN_bl, tyN_int, tyN_str, isi_ii, isi_ib, isi_it, isi_il, isi_bi, isi_bb, isi_tt, isi_ni, isi_si, isi_ti, isi_li, isi_di, isi_ll, scal_ii, scal_bb, sz0, sz1, sz2, sz3, sz4, List.map_cons, List.map_nil, List.length_cons, List.length_nil, List.replicate, List.cons_append, List.nil_append, List.append_nil, List.getElem?_cons_zero, List.getElem?_cons_succ, List.set_cons_zero, List.set_cons_succ, Option.some.injEq, V.int.injEq, V.bl.injEq, V.ref.injEq, V.ty.injEq, List.cons.injEq, and_true, true_and, exists_eq_left, exists_eq_left', exists_and_left, exists_and_right, exists_eq, exists_eq', and_assoc, Nat.reduceAdd, Nat.reduceSub, Bool.not_true, Bool.not_false, Bool.false_eq_true, if_true, if_false, reduceIte, Nat.zero_add, decide_true, decide_false, selC, comp_K, tYes, Option.join_some, rIxTH, rIxLH, rLenH, rIsiF, at0, at1, at2, at3, at4, at5, at6, at7, at8, HO.tup.injEq, HO.lst.injEq, reduceCtorEq, false_or, or_false, tyF_non, tyF_bl, tyF_int, tyF_str, exists_const, Int.reduceAdd, Int.reduceMul, Int.reduceSub, gSub, rSetL, tSl, tPart, tNoPart, rSlH, upd_same, upd_upd, rIntB, rListH, tBM, tBM0, rAppend, rClear, tPar, gTupH]
    have v0 := Int.emod_nonneg (m * m + 48271 * m + (0 + (i : Int))) (show (2147483647 : Int) ≠ 0 by decide)
    have v1 := Int.emod_lt_of_pos (m * m + 48271 * m + (0 + (i : Int))) (show (0 : Int) < 2147483647 by decide)
    generalize (m * m + 48271 * m + (0 + (i : Int))) % 2147483647 = v at *
    exact ⟨cbig lm lm, .inl ⟨by decide, by decide⟩, by decide, tyV_of hR2, _, hR2, Nat.lt_of_le_of_lt (show (ms.map V.int).length ≤ 25 by rw [List.length_map]; omega) (by decide), same_put g2 hR, ms ++ [v], by rw [List.map_append]; rfl, by rw [List.length_append, hn]; rfl, v0, by omega⟩
  · rintro σ H2 ⟨g2, ms, m, u, rfl, hR2, hn, m0, m1⟩
    simp only [tSeq, tNext, tRet, tRetN, tIfS, tAsg, gName, tDrop, tVar, tC, tOp, tUn, rI, rI0, rU, rEq, rNe, tTest, tB, tNot, tAnd, tOr, tAndV, tOrV, tNotV, tIf, tCB, tCall, tNil, tCons, tTup, tLst, gTup, gCons, gNil, L2.start, rIsi, rIxT, rIxL, cx_K, tyN_non, tyN_bl, tyN_int, tyN_str, isi_ii, isi_ib, isi_it, isi_il, isi_bi, isi_bb, isi_tt, isi_ni, isi_si, isi_ti, isi_li, isi_di, isi_ll, scal_ii, scal_bb, sz0, sz1, sz2, sz3, sz4, List.map_cons, List.map_nil, List.length_cons, List.length_nil, List.replicate, List.cons_append, List.nil_append, List.append_nil, List.getElem?_cons_zero, List.getElem?_cons_succ, List.set_cons_zero, List.set_cons_succ, Option.some.injEq, V.int.injEq, V.bl.injEq, V.ref.injEq, V.ty.injEq, List.cons.injEq, and_true, true_and, exists_eq_left, exists_eq_left', exists_and_left, exists_and_right, exists_eq, exists_eq', and_assoc, Nat.reduceAdd, Nat.reduceSub, Bool.not_true, Bool.not_false, Bool.false_eq_true, if_true, if_false, reduceIte, Nat.zero_add, decide_true, decide_false, selC, comp_K, tYes, Option.join_some, rIxTH, rIxLH, rLenH, rIsiF, at0, at1, at2, at3, at4, at5, at6, at7, at8, HO.tup.injEq, HO.lst.injEq, reduceCtorEq, false_or, or_false, tyF_non, tyF_bl, tyF_int, tyF_str, exists_const, Int.reduceAdd, Int.reduceMul, Int.reduceSub, gSub, rSetL, tSl, tPart, tNoPart, rSlH, upd_same, upd_upd, rIntB, rListH, tBM, tBM0, rAppend, rClear, tPar, gTupH, hR2, cut_from1]
    intro p hp
    rw [← List.map_drop]
    exact k p (ms.drop 1) _ (g2.free hp) (g2.trans (same_new hp _)) upd_same (by rw [List.length_drop, hn])
def kQ (r : Q3) : List Key := [.inl r.x, .inl r.y, .inl r.w]
theorem kQ_inj {p q : Q3} (h : kQ p = kQ q) : p = q := by
  obtain ⟨x, y, w⟩ := p
  obtain ⟨x', y', w'⟩ := q
  unfold kQ at h
  cases h
  rfl
theorem kQ_map (r : Q3) : (kQ r).map kV = [.int r.x, .int r.y, .int r.w] := rfl
def KyOk (H : Hp) (kvs : List (List Key × V)) (g : Int) (ps : List Q3) : Prop := ∀ p, p ∈ ps → ∃ b, valV kvs (kQ p) = some (.ref b) ∧ H b = some (.tup [.int (kyQ g p).1, .int (kyQ g p).2])
theorem KyOk.ts {H H' : Hp} {kvs : List (List Key × V)} {g : Int} {ps : List Q3} (h : KyOk H kvs g ps) (t : TupSame H H') : KyOk H' kvs g ps := fun p hp => by
  obtain ⟨b, e, hb⟩ := h p hp
  exact ⟨b, e, t _ _ hb⟩
def sp_okeys : Sp := fun vs H Q _ => ∃ (l : Addr) (ys : List V) (ps : List Q3), vs = [.ref l] ∧ H l = some (.lst ys) ∧ ys.length ≤ 1000 ∧ LR QH H ys ps ∧
  ∀ d kvs g (qs : List Q3) H', Same H H' → H' d = some (.dT kvs) → 0 < g → (∀ p, p ∈ ps → p.w ≤ g) → KyOk H' kvs g ps → kvs.map Prod.fst = qs.map kQ → qs.Nodup → (∀ p, p ∈ qs ↔ p ∈ ps) → qs.length ≤ ps.length → Q (.ref d) H'
theorem ts_putD {H : Hp} {D : Addr} {kvs : List (List Key × V)} {o : HO} (h : H D = some (.dT kvs)) : TupSame H (upd H D o) := fun b xs q => by
  rw [upd_ne (fun z => by rw [z, h] at q; cases q)]
  exact q
theorem ok_order_keys (T : Txt K mg ad fd) : FnOk P w K mg base CX0 1 (ad 4) (fd 4) ["points"] sp_okeys := by
  refine T.order_keys.fn.ok sc_order_keys (fun vs H Q E h => ?_) (fun cdv A outer s H vs Q E hr h => ?_)
  · obtain ⟨l, ys, ps, rfl, _⟩ := h
    rfl
  obtain ⟨l, ys, ps, rfl, hl, hn, hp, k⟩ := h
  have hs : ∀ p, p ∈ ps → 0 < p.w ∧ p.x.natAbs < 2 ^ 80 ∧ p.y.natAbs < 2 ^ 80 ∧ p.w.natAbs < 2 ^ 80 := fun p hp' => by
    obtain ⟨j, hj⟩ := List.mem_iff_getElem?.mp hp'
    have hj' : j < ys.length := by rw [hp.1]; exact (List.getElem?_eq_some_iff.mp hj).1
    obtain ⟨b, r, _, e2, hr⟩ := hp.at hj'
    rw [hj] at e2
    cases e2
    exact ⟨hr.2.pos, lt_mono hr.2.lx (by decide), lt_mono hr.2.ly (by decide), lt_mono hr.2.lw (by decide)⟩
  have qpss5 := @pss5
  have qps_set := @ps_set
  have qpe_callBK := @pe_callBK
  have qpa1 := @pa1
  have qpe_comp := @pe_comp
  unfold L2.CompBody at qpe_comp
  have qpi_list := @pi_list
  have qpv := @pv
  have qpg_name := @pg_name
  have qpif_nil := @pif_nil
  have qpe_ix := @pe_ix
  have qpe_int := @pe_int
  have qpk_cons := @pk_cons
  have qpk_nil := @pk_nil
  have qpe_op := @pe_op
  have qpe_dnewT := @pe_dnewT
  have qps_for := @ps_for
  have qpss_one := @pss_one
  have qps_if := @ps_if
  have qpt_cmp := @pt_cmp
  have qpc_dnotin := @pc_dnotin
  have qps_dput := @ps_dput
  have qpe_tup := @pe_tup
  have qpa2 := @pa2
  have qpss_nil := @pss_nil
  have qps_ret := @ps_ret
  generalize @L2.PE = QE, @L2.PT = QT, @L2.PW = QW, @L2.PA = QA, @L2.PS = QS, @L2.PSs = QSs, @L2.PG = QG, @L2.PGs = QGs, @L2.PI = QI, @L2.PO = QO, @L2.PIf = QIf, @L2.PC = QC, @L2.PK = QK at qpss5 qps_set qpe_callBK qpa1 qpe_comp qpi_list qpv qpg_name qpif_nil qpe_ix qpe_int qpk_cons qpk_nil qpe_op qpe_dnewT qps_for qpss_one qps_if qpt_cmp qpc_dnotin qps_dput qpe_tup qpa2 qpss_nil qps_ret ⊢
  refine ⟨_,
    (qpss5
      (qps_set (i := 1) sc_order_keys.nd rfl (Or.inl rfl) (qpe_callBK (call_maxD rfl) rfl T.b_max bt_max (qpa1 (qpe_comp (dsc := defScope s_order_keys) (N := ["points", "greatest", "scale", "keys", "P"]) (own := ["P"]) (ix := []) rfl rfl rfl ⟨rfl, by decide +kernel, by decide +kernel, by decide +kernel, by decide +kernel⟩ (qpi_list (qpv 0)) (fun cl C fp s2 H2 xe => ⟨(qpg_name (i := 0) (show List.Nodup (["P"] : List Str) from by decide +kernel) rfl (Or.inl rfl)), qpif_nil, (qpe_ix ix_tupH (qpv 0) qpe_int (fun _ _ => rfl))⟩)) ns_ListComp) (qpk_cons qpe_int qpk_nil)))
      (qps_set (i := 2) sc_order_keys.nd rfl (Or.inl rfl) (qpe_op op_mulB (qpv 1) (qpv 1)))
      (qps_set (i := 3) sc_order_keys.nd rfl (Or.inl rfl) qpe_dnewT)
      (qps_for PassesOwn.never rfl (qpi_list (qpv 0)) (qpg_name (i := 4) sc_order_keys.nd rfl (Or.inl rfl)) (qpss_one (qps_if (qpt_cmp (qpc_dnotin (hu_of hr) (qpv 4) (qpv 3))) (qpss_one (qps_dput (hu_of hr) (qpv 3) (qpv 4) (qpe_tup (qpa2 (qpe_op op_fdivB (qpe_op op_mulB (qpe_ix ix_tupH (qpv 4) qpe_int (fun _ _ => rfl)) (qpv 2)) (qpe_ix ix_tupH (qpv 4) qpe_int (fun _ _ => rfl))) ns_BinOp (qpe_op op_fdivB (qpe_op op_mulB (qpe_ix ix_tupH (qpv 4) qpe_int (fun _ _ => rfl)) (qpv 2)) (qpe_ix ix_tupH (qpv 4) qpe_int (fun _ _ => rfl))) ns_BinOp)) rfl)) qpss_nil)))
      (qps_ret (qpv 3)))
    , ?_⟩
  clear  qpss5 qps_set qpe_callBK qpa1 qpe_comp qpi_list qpv qpg_name qpif_nil qpe_ix qpe_int qpk_cons qpk_nil qpe_op qpe_dnewT qps_for qpss_one qps_if qpt_cmp qpc_dnotin qps_dput qpe_tup qpa2 qpss_nil qps_ret QE QT QW QA QS QSs QG QGs QI QO QIf QC QK
  simp only [tSeq, tNext, tRet, tRetN, tIfS, tAsg, gName, tDrop, tVar, tC, tOp, tUn, rI, rI0, rU, rEq, rNe, tTest, tB, tNot, tAnd, tOr, tAndV, tOrV, tNotV, tIf, tCB, tCall, tNil, tCons, tTup, tLst, gTup, gCons, gNil, L2.start, rIsi, rIxT, rIxL, cx_K, tyN_non, tyN_bl, tyN_int, tyN_str, isi_ii, isi_ib, isi_it, isi_il, isi_bi, isi_bb, isi_tt, isi_ni, isi_si, isi_ti, isi_li, isi_di, isi_ll, scal_ii, scal_bb, sz0, sz1, sz2, sz3, sz4, List.map_cons, List.map_nil, List.length_cons, List.length_nil, List.replicate, List.cons_append, List.nil_append, List.append_nil, List.getElem?_cons_zero, List.getElem?_cons_succ, List.set_cons_zero, List.set_cons_succ, Option.some.injEq, V.int.injEq, V.bl.injEq, V.ref.injEq, V.ty.injEq, List.cons.injEq, and_true, true_and, exists_eq_left, exists_eq_left', exists_and_left, exists_and_right, exists_eq, exists_eq', and_assoc, Nat.reduceAdd, Nat.reduceSub, Bool.not_true, Bool.not_false, Bool.false_eq_true, if_true, if_false, reduceIte, Nat.zero_add, decide_true, decide_false, selC, comp_K, tYes, Option.join_some, rIxTH, rIxLH, rLenH, rIsiF, at0, at1, at2, at3, at4, at5, at6, at7, at8, HO.tup.injEq, HO.lst.injEq, reduceCtorEq, false_or, or_false, tyF_non, tyF_bl, tyF_int, tyF_str, exists_const, Int.reduceAdd, Int.reduceMul, Int.reduceSub, gSub, rSetL, tSl, tPart, tNoPart, rSlH, upd_same, upd_upd, rIntB, rListH, tBM, tBM0, rAppend, rClear, tPar, gTupH, tCBK]
  refine tComp_mk ?_
  simp only [iList, tSeq, tNext, tRet, tRetN, tIfS, tAsg, gName, tDrop, tVar, tC, tOp, tUn, rI, rI0, rU, rEq, rNe, tTest, tB, tNot, tAnd, tOr, tAndV, tOrV, tNotV, tIf, tCB, tCall, tNil, tCons, tTup, tLst, gTup, gCons, gNil, L2.start, rIsi, rIxT, rIxL, cx_K, tyN_non, tyN_bl, tyN_int, tyN_str, isi_ii, isi_ib, isi_it, isi_il, isi_bi, isi_bb, isi_tt, isi_ni, isi_si, isi_ti, isi_li, isi_di, isi_ll, scal_ii, scal_bb, sz0, sz1, sz2, sz3, sz4, List.map_cons, List.map_nil, List.length_cons, List.length_nil, List.replicate, List.cons_append, List.nil_append, List.append_nil, List.getElem?_cons_zero, List.getElem?_cons_succ, List.set_cons_zero, List.set_cons_succ, Option.some.injEq, V.int.injEq, V.bl.injEq, V.ref.injEq, V.ty.injEq, List.cons.injEq, and_true, true_and, exists_eq_left, exists_eq_left', exists_and_left, exists_and_right, exists_eq, exists_eq', and_assoc, Nat.reduceAdd, Nat.reduceSub, Bool.not_true, Bool.not_false, Bool.false_eq_true, if_true, if_false, reduceIte, Nat.zero_add, decide_true, decide_false, selC, comp_K, tYes, Option.join_some, rIxTH, rIxLH, rLenH, rIsiF, at0, at1, at2, at3, at4, at5, at6, at7, at8, HO.tup.injEq, HO.lst.injEq, reduceCtorEq, false_or, or_false, tyF_non, tyF_bl, tyF_int, tyF_str, exists_const, Int.reduceAdd, Int.reduceMul, Int.reduceSub, gSub, rSetL, tSl, tPart, tNoPart, rSlH, upd_same, upd_upd, rIntB, rListH, tBM, tBM0, rAppend, rClear, tPar, gTupH]
  refine ⟨⟨_, .of hl⟩, fun D hD => ?_⟩
  refine comp_list (xs := ys) (fun i zs H' => Same H H' ∧ H' D = some (.lst zs) ∧ zs = ((ps.take i).map fun p => V.int p.w)) ⟨same_new hD _, upd_same, by rw [List.take_zero]; rfl⟩ (fun i zs H' p => .of (p.1 _ _ hl)) ?_ ?_
  · rintro i zs H1 v hi hv ⟨g1, hD1, ez⟩
    obtain ⟨p, r, rfl, hr', hq⟩ := hp.2 i v hv
    have hq1 : H1 p = some (.tup [.int r.x, .int r.y, .int r.w]) := g1 _ _ hq.1
    simp only [tSeq, tNext, tRet, tRetN, tIfS, tAsg, gName, tDrop, tVar, tC, tOp, tUn, rI, rI0, rU, rEq, rNe, tTest, tB, tNot, tAnd, tOr, tAndV, tOrV, tNotV, tIf, tCB, tCall, tNil, tCons, tTup, tLst, gTup, gCons, gNil, L2.start, rIsi, rIxT, rIxL, cx_K, tyN_non, tyN_bl, tyN_int, tyN_str, isi_ii, isi_ib, isi_it, isi_il, isi_bi, isi_bb, isi_tt, isi_ni, isi_si, isi_ti, isi_li, isi_di, isi_ll, scal_ii, scal_bb, sz0, sz1, sz2, sz3, sz4, List.map_cons, List.map_nil, List.length_cons, List.length_nil, List.replicate, List.cons_append, List.nil_append, List.append_nil, List.getElem?_cons_zero, List.getElem?_cons_succ, List.set_cons_zero, List.set_cons_succ, Option.some.injEq, V.int.injEq, V.bl.injEq, V.ref.injEq, V.ty.injEq, List.cons.injEq, and_true, true_and, exists_eq_left, exists_eq_left', exists_and_left, exists_and_right, exists_eq, exists_eq', and_assoc, Nat.reduceAdd, Nat.reduceSub, Bool.not_true, Bool.not_false, Bool.false_eq_true, if_true, if_false, reduceIte, Nat.zero_add, decide_true, decide_false, selC, comp_K, tYes, Option.join_some, rIxTH, rIxLH, rLenH, rIsiF, at0, at1, at2, at3, at4, at5, at6, at7, at8, HO.tup.injEq, HO.lst.injEq, reduceCtorEq, false_or, or_false, tyF_non, tyF_bl, tyF_int, tyF_str, exists_const, Int.reduceAdd, Int.reduceMul, Int.reduceSub, gSub, rSetL, tSl, tPart, tNoPart, rSlH, upd_same, upd_upd, rIntB, rListH, tBM, tBM0, rAppend, rClear, tPar, gTupH, hq1]
    refine cw_put hi hD1 ?_ ⟨same_put g1 hD, upd_same, ?_⟩
    · rw [ez, List.length_map, List.length_take]
      exact small1000 (by have := Nat.min_le_left i ps.length; omega)
    · rw [List.take_add_one, hr', ez, List.map_append]
      rfl
  · rintro zs H1 ⟨g1, hD1, ez⟩
    rw [List.take_of_length_le (by rw [hp.1]; exact Nat.le_refl _)] at ez
    refine ⟨D, ps.map fun p => p.w, 1, rfl, rfl, by rw [hD1, ez, List.map_map]; rfl, fun g gm gi => ?_⟩
    have g0 : 0 < g := by
      rcases gi with gi | gi
      · obtain ⟨p, hp', e⟩ := List.mem_map.mp gi
        have := (hs p hp').1
        omega
      · omega
    have gs : g.natAbs < 2 ^ 80 := by
      rcases gi with gi | gi
      · obtain ⟨p, hp', e⟩ := List.mem_map.mp gi
        rw [← e]
        exact (hs p hp').2.2.2
      · rw [gi.2]; decide
    refine ⟨g, rfl, g, rfl, cbig gs gs, fun d hd => ?_⟩
    have gg : (g * g).natAbs < 2 ^ 160 := by
      rw [Int.natAbs_mul]
      exact Nat.lt_of_lt_of_le (Nat.mul_lt_mul'' gs gs) (by decide)
    refine tFor_mk ?_
    simp only [iList, tSeq, tNext, tRet, tRetN, tIfS, tAsg, gName, tDrop, tVar, tC, tOp, tUn, rI, rI0, rU, rEq, rNe, tTest, tB, tNot, tAnd, tOr, tAndV, tOrV, tNotV, tIf, tCB, tCall, tNil, tCons, tTup, tLst, gTup, gCons, gNil, L2.start, rIsi, rIxT, rIxL, cx_K, tyN_non, tyN_bl, tyN_int, tyN_str, isi_ii, isi_ib, isi_it, isi_il, isi_bi, isi_bb, isi_tt, isi_ni, isi_si, isi_ti, isi_li, isi_di, isi_ll, scal_ii, scal_bb, sz0, sz1, sz2, sz3, sz4, List.map_cons, List.map_nil, List.length_cons, List.length_nil, List.replicate, List.cons_append, List.nil_append, List.append_nil, List.getElem?_cons_zero, List.getElem?_cons_succ, List.set_cons_zero, List.set_cons_succ, Option.some.injEq, V.int.injEq, V.bl.injEq, V.ref.injEq, V.ty.injEq, List.cons.injEq, and_true, true_and, exists_eq_left, exists_eq_left', exists_and_left, exists_and_right, exists_eq, exists_eq', and_assoc, Nat.reduceAdd, Nat.reduceSub, Bool.not_true, Bool.not_false, Bool.false_eq_true, if_true, if_false, reduceIte, Nat.zero_add, decide_true, decide_false, selC, comp_K, tYes, Option.join_some, rIxTH, rIxLH, rLenH, rIsiF, at0, at1, at2, at3, at4, at5, at6, at7, at8, HO.tup.injEq, HO.lst.injEq, reduceCtorEq, false_or, or_false, tyF_non, tyF_bl, tyF_int, tyF_str, exists_const, Int.reduceAdd, Int.reduceMul, Int.reduceSub, gSub, rSetL, tSl, tPart, tNoPart, rSlH, upd_same, upd_upd, rIntB, rListH, tBM, tBM0, rAppend, rClear, tPar, gTupH]
    have g2 := same_new hd (HO.dT [])
    refine ⟨⟨_, .of (g2 _ _ (g1 _ _ hl))⟩, ?_⟩
    refine for_list (K := K) (a := l) (xs := ys) (fun i σ H' => Same H1 H' ∧ ∃ (kvs : List (List Key × V)) (o : Option V), σ = [some (.ref l), some (.int g), some (.int (g * g)), some (.ref d), o] ∧ H' d = some (.dT kvs) ∧ kvs.length ≤ i ∧ KyOk H' kvs g (ps.take i) ∧ (∀ p, (valV kvs (kQ p)).isSome = true → p ∈ ps.take i) ∧ ∃ qs : List Q3, kvs.map Prod.fst = qs.map kQ ∧ qs.Nodup ∧ (∀ p, p ∈ qs ↔ p ∈ ps.take i) ∧ qs.length ≤ i)
      ⟨g2, [], none, rfl, upd_same, Nat.le_refl _, fun p hp' => (by rw [List.take_zero] at hp'; cases hp'), fun p z => (by cases z), [], rfl, .nil, fun p => (by rw [List.take_zero]), Nat.le_refl _⟩ (fun i σ H' _ iv => .of (iv.1 _ _ (g1 _ _ hl))) ?_ ?_
    · rintro i v σ H2 hi ⟨g3, kvs, o, rfl, hd2, hk, ky, kb, qs, q1, q2, q3, q4⟩
      obtain ⟨p, r, rfl, hr', hq⟩ := hp.2 i v hi
      have hq2 : H2 p = some (.tup [.int r.x, .int r.y, .int r.w]) := g3 _ _ (g1 _ _ hq.1)
      simp only [tSeq, tNext, tRet, tRetN, tIfS, tAsg, gName, tDrop, tVar, tC, tOp, tUn, rI, rI0, rU, rEq, rNe, tTest, tB, tNot, tAnd, tOr, tAndV, tOrV, tNotV, tIf, tCB, tCall, tNil, tCons, tTup, tLst, gTup, gCons, gNil, L2.start, rIsi, rIxT, rIxL, cx_K, tyN_non, tyN_bl, tyN_int, tyN_str, isi_ii, isi_ib, isi_it, isi_il, isi_bi, isi_bb, isi_tt, isi_ni, isi_si, isi_ti, isi_li, isi_di, isi_ll, scal_ii, scal_bb, sz0, sz1, sz2, sz3, sz4, List.map_cons, List.map_nil, List.length_cons, List.length_nil, List.replicate, List.cons_append, List.nil_append, List.append_nil, List.getElem?_cons_zero, List.getElem?_cons_succ, List.set_cons_zero, List.set_cons_succ, Option.some.injEq, V.int.injEq, V.bl.injEq, V.ref.injEq, V.ty.injEq, List.cons.injEq, and_true, true_and, exists_eq_left, exists_eq_left', exists_and_left, exists_and_right, exists_eq, exists_eq', and_assoc, Nat.reduceAdd, Nat.reduceSub, Bool.not_true, Bool.not_false, Bool.false_eq_true, if_true, if_false, reduceIte, Nat.zero_add, decide_true, decide_false, selC, comp_K, tYes, Option.join_some, rIxTH, rIxLH, rLenH, rIsiF, at0, at1, at2, at3, at4, at5, at6, at7, at8, HO.tup.injEq, HO.lst.injEq, reduceCtorEq, false_or, or_false, tyF_non, tyF_bl, tyF_int, tyF_str, exists_const, Int.reduceAdd, Int.reduceMul, Int.reduceSub, gSub, rSetL, tSl, tPart, tNoPart, rSlH, upd_same, upd_upd, rIntB, rListH, tBM, tBM0, rAppend, rClear, tPar, gTupH, tDNotIn, sDPut, hq2]
      obtain ⟨r0, rx, ry, rw'⟩ := hs r (List.mem_of_getElem? hr')
      have wn : r.w ≠ 0 := by omega
      rw [List.take_add_one, hr']
      refine ⟨_, .t (k := kQ r) hd2 hq2, ite2 (fun c => ⟨cbig rx gg, cdivb wn rw', cbig ry gg, cdivb wn rw', fun t ht => ?_⟩) fun c => ?_⟩
      · rw [Int.fdiv_eq_ediv_of_nonneg _ (by omega), Int.fdiv_eq_ediv_of_nonneg _ (by omega)]
        have nv : valV kvs (kQ r) = none := by
          cases e : valV kvs (kQ r) with
          | none => rfl
          | some u => rw [e] at c; cases c
        have g4 := same_new ht (HO.tup [V.int (r.x * (g * g) / r.w), V.int (r.y * (g * g) / r.w)])
        have ht4 : upd H2 t (HO.tup [V.int (r.x * (g * g) / r.w), V.int (r.y * (g * g) / r.w)]) t = some (HO.tup [V.int (r.x * (g * g) / r.w), V.int (r.y * (g * g) / r.w)]) := upd_same
        generalize upd H2 t (HO.tup [V.int (r.x * (g * g) / r.w), V.int (r.y * (g * g) / r.w)]) = H4 at *
        have hd4 := g4 _ _ hd2
        refine ⟨_, .t (k := kQ r) hd4 (g4 _ _ hq2) (small1000 (by have := (List.getElem?_eq_some_iff.mp hi).1; omega)), same_put (g3.trans g4) hd, _, upd_same, Nat.le_trans (length_putK _ _ _) (by omega), fun p' hp' => ?_, fun p' z => ?_, qs ++ [r], ?_, ?_, fun p' => ?_, by rw [List.length_append]; exact Nat.succ_le_succ q4⟩
        · rw [valV_put]
          by_cases e : kQ p' = kQ r
          · rw [if_pos e]
            have e' := kQ_inj e
            subst e'
            exact ⟨t, rfl, ts_putD hd4 _ _ ht4⟩
          · rw [if_neg e]
            rcases List.mem_append.mp hp' with hp' | hp'
            · obtain ⟨b, e1, e2⟩ := ky p' hp'
              exact ⟨b, e1, ts_putD hd4 _ _ (g4 _ _ e2)⟩
            · have e' : p' = r := by simpa using hp'
              exact absurd (by rw [e']) e
        · rw [valV_put] at z
          by_cases e : kQ p' = kQ r
          · rw [kQ_inj e]
            exact List.mem_append_right _ (by simp)
          · rw [if_neg e] at z
            exact List.mem_append_left _ (kb p' z)
        · rw [putK_new _ nv, List.map_append, List.map_append, q1]
          rfl
        · exact List.nodup_append.mpr ⟨q2, List.pairwise_singleton _ _, fun a ha b hb e => by
            rw [List.mem_singleton.mp hb] at e
            subst e
            obtain ⟨b', e1, _⟩ := ky a ((q3 a).mp ha)
            rw [nv] at e1
            cases e1⟩
        · rw [List.mem_append, List.mem_append, q3]
          simp
      · have z : (valV kvs (kQ r)).isSome = true := by
          cases e : (valV kvs (kQ r)).isSome with
          | true => rfl
          | false => exact absurd (by rw [e]; rfl) c
        refine ⟨g3, kvs, hd2, by omega, fun p' hp' => ?_, fun p' z' => List.mem_append_left _ (kb p' z'), qs, q1, q2, fun p' => ?_, by omega⟩
        rcases List.mem_append.mp hp' with hp' | hp'
        · exact ky p' hp'
        · have e' : p' = r := by simpa using hp'
          rw [e']
          exact ky r (kb r z)
        · rw [List.mem_append, q3]
          refine ⟨.inl, fun h => h.elim id fun h => ?_⟩
          have e' : p' = r := by simpa using h
          rw [e']
          exact kb r z
    · rintro σ H2 ⟨g3, kvs, o, rfl, hd2, hk, ky, kb, qs, q1, q2, q3, q4⟩
      rw [List.take_of_length_le (by rw [hp.1]; exact Nat.le_refl _)] at ky q3
      simp only [tSeq, tNext, tRet, tRetN, tIfS, tAsg, gName, tDrop, tVar, tC, tOp, tUn, rI, rI0, rU, rEq, rNe, tTest, tB, tNot, tAnd, tOr, tAndV, tOrV, tNotV, tIf, tCB, tCall, tNil, tCons, tTup, tLst, gTup, gCons, gNil, L2.start, rIsi, rIxT, rIxL, cx_K, tyN_non, tyN_bl, tyN_int, tyN_str, isi_ii, isi_ib, isi_it, isi_il, isi_bi, isi_bb, isi_tt, isi_ni, isi_si, isi_ti, isi_li, isi_di, isi_ll, scal_ii, scal_bb, sz0, sz1, sz2, sz3, sz4, List.map_cons, List.map_nil, List.length_cons, List.length_nil, List.replicate, List.cons_append, List.nil_append, List.append_nil, List.getElem?_cons_zero, List.getElem?_cons_succ, List.set_cons_zero, List.set_cons_succ, Option.some.injEq, V.int.injEq, V.bl.injEq, V.ref.injEq, V.ty.injEq, List.cons.injEq, and_true, true_and, exists_eq_left, exists_eq_left', exists_and_left, exists_and_right, exists_eq, exists_eq', and_assoc, Nat.reduceAdd, Nat.reduceSub, Bool.not_true, Bool.not_false, Bool.false_eq_true, if_true, if_false, reduceIte, Nat.zero_add, decide_true, decide_false, selC, comp_K, tYes, Option.join_some, rIxTH, rIxLH, rLenH, rIsiF, at0, at1, at2, at3, at4, at5, at6, at7, at8, HO.tup.injEq, HO.lst.injEq, reduceCtorEq, false_or, or_false, tyF_non, tyF_bl, tyF_int, tyF_str, exists_const, Int.reduceAdd, Int.reduceMul, Int.reduceSub, gSub, rSetL, tSl, tPart, tNoPart, rSlH, upd_same, upd_upd, rIntB, rListH, tBM, tBM0, rAppend, rClear, tPar, gTupH]
      exact k d kvs g qs H2 (g1.trans g3) hd2 g0 (fun p hp' => gm _ (List.mem_map.mpr ⟨p, hp', rfl⟩)) ky q1 q2 q3 (by rw [← hp.1]; exact q4)
def lposB : Pos := (lamAt s_in_order).2
def qlB : Str := (PyProof.Rows.envOfC "in_order" (defScope s_in_order) 0 0 .none).qual ++ "<lambda>"
theorem ltK_lt2 (a b : Int × Int) : ltK a b = lt2 a b := by
  unfold ltK lt2 lexB
  by_cases h : a.1 = b.1
  · rw [if_pos h, if_pos h]
    by_cases h2 : a.2 = b.2
    · rw [if_pos h2]; exact (decide_eq_false (by omega)).symm
    · rw [if_neg h2]
  · rw [if_neg h, if_neg h]
def OrdOf (os ps : List Q3) : Prop := os.Pairwise (Lt 1) ∧ (∀ p, p ∈ os ↔ p ∈ ps) ∧ os.length ≤ ps.length
def sp_inord (tb : Addr) (lp : Pos) (ql : Str) : Sp := fun vs H Q _ => ∃ (l : Addr) (ys : List V) (ps : List Q3), vs = [.ref l] ∧ H l = some (.lst ys) ∧ ys.length ≤ 30 ∧ LR QH H ys ps ∧ LamTab H tb lp ql ∧
  ∀ D zs (os : List Q3) H', H D = none → SameT tb H H' → LamTab H' tb lp ql → H' D = some (.lst zs) → LR QH H' zs os → OrdOf os ps → Q (.ref D) H'
theorem mem_pq {H : Hp} {ys : List V} {ps : List Q3} (h : LR QH H ys ps) {p : Q3} (hp : p ∈ ps) : PQ 60 p := by
  obtain ⟨j, hj⟩ := List.mem_iff_getElem?.mp hp
  have hj' : j < ys.length := by rw [h.1]; exact (List.getElem?_eq_some_iff.mp hj).1
  obtain ⟨b, r, _, e2, hr⟩ := h.at hj'
  rw [hj] at e2
  cases e2
  exact hr.2
theorem ky_apart {g : Int} {a b : Q3} (ha : PQ 60 a) (hb : PQ 60 b) (ga : a.w ≤ g) (gb : b.w ≤ g) (ne : a ≠ b) : kyQ g a ≠ kyQ g b := fun e => by
  cases h1 : bq a b with
  | true =>
    have := ky_lt ha.pos hb.pos ga gb h1
    rw [e, sto2.irr] at this
    cases this
  | false =>
    cases h2 : bq b a with
    | true =>
      have := ky_lt hb.pos ha.pos gb ga h2
      rw [e, sto2.irr] at this
      cases this
    | false => exact ne (pq_tri ha hb h1 h2)
theorem ky_back {g : Int} {a b : Q3} (ha : PQ 60 a) (hb : PQ 60 b) (ga : a.w ≤ g) (gb : b.w ≤ g) (h : lt2 (kyQ g a) (kyQ g b) = true) : Lt 1 a b := by
  cases h1 : bq a b with
  | true => exact bq_lt.mp h1
  | false =>
    cases h2 : bq b a with
    | true =>
      have := sto2.tr _ _ _ h (ky_lt hb.pos ha.pos gb ga h2)
      rw [sto2.irr] at this
      cases this
    | false =>
      rw [pq_tri ha hb h1 h2, sto2.irr] at h
      cases h
theorem ok_in_order (T : Txt K mg ad fd) (hK : K.In base) (hB : base.BuiltinsAt mg (ad 21)) : FnOk P w K mg base CX0 3 (ad 5) (fd 5) ["points"] (sp_inord (ad 21) lposB qlB) := by
  refine T.in_order_c.ok sc_in_order (fun vs H Q E h => ?_) (fun A outer s H vs Q E hr h => ?_)
  · obtain ⟨l, ys, ps, rfl, _⟩ := h
    rfl
  obtain ⟨l, ys, ps, rfl, hl, h30, hp, lt, k⟩ := h
  have qpss2 := @pss2
  have qps_set := @ps_set
  have qpe_call := @pe_call
  have qpa1 := @pa1
  have qpv := @pv
  have qps_ret := @ps_ret
  have qpe_sortK := @pe_sortK
  have qpe_callTy := @pe_callTy
  have qpe_dget := @pe_dget
  generalize @L2.PE = QE, @L2.PT = QT, @L2.PW = QW, @L2.PA = QA, @L2.PS = QS, @L2.PSs = QSs, @L2.PG = QG, @L2.PGs = QGs, @L2.PI = QI, @L2.PO = QO, @L2.PIf = QIf at qpss2 qps_set qpe_call qpa1 qpv qps_ret qpe_sortK qpe_callTy qpe_dget ⊢
  refine ⟨_,
    (qpss2
      (qps_set (i := 1) sc_in_order.nd rfl (Or.inr rfl) (qpe_call (ok_order_keys T) (hr.mono (by omega)) rfl T.order_keys.mg T.order_keys.fn.kp T.order_keys.bn .nil pass0 (qpa1 (qpv 0) ns_Name)))
      (qps_ret (qpe_sortK (P := ad 21) (c0 := ad 20) (x := "P") (y := "keys") (c := s.heap.objs.size + 1) (i0 := 1) (keyKP_pairs80 (hu80 hr)) hr rfl T.b_sorted (qpa1 (qpe_callTy (call_listD rfl) rfl T.b_list bt_list (qpa1 (qpv 1) ns_Name)) ns_Call) ⟨rfl, rfl, rfl, rfl, rfl, by decide +kernel, by decide +kernel⟩ rfl rfl rfl rfl rfl rfl (PySem.W.codeHd_of_K hK T.in_order_c.hd) hB (fun _ _ _ _ => rfl) (by intro fa2 c2 A2 s3 H3 hu2; exact (qpe_dget (by show A2.units + 3 + 1 < cLine; omega) (qpv 1) (qpv 0) (fun _ _ => rfl))))))
    , ?_⟩
  clear  qpss2 qps_set qpe_call qpa1 qpv qps_ret qpe_sortK qpe_callTy qpe_dget QE QT QW QA QS QSs QG QGs QI QO QIf
  simp only [tSeq, tNext, tRet, tRetN, tIfS, tAsg, gName, tDrop, tVar, tC, tOp, tUn, rI, rI0, rU, rEq, rNe, tTest, tB, tNot, tAnd, tOr, tAndV, tOrV, tNotV, tIf, tCB, tCall, tNil, tCons, tTup, tLst, gTup, gCons, gNil, L2.start, rIsi, rIxT, rIxL, cx_K, tyN_non, tyN_bl, tyN_int, tyN_str, isi_ii, isi_ib, isi_it, isi_il, isi_bi, isi_bb, isi_tt, isi_ni, isi_si, isi_ti, isi_li, isi_di, isi_ll, scal_ii, scal_bb, sz0, sz1, sz2, sz3, sz4, List.map_cons, List.map_nil, List.length_cons, List.length_nil, List.replicate, List.cons_append, List.nil_append, List.append_nil, List.getElem?_cons_zero, List.getElem?_cons_succ, List.set_cons_zero, List.set_cons_succ, Option.some.injEq, V.int.injEq, V.bl.injEq, V.ref.injEq, V.ty.injEq, List.cons.injEq, and_true, true_and, exists_eq_left, exists_eq_left', exists_and_left, exists_and_right, exists_eq, exists_eq', and_assoc, Nat.reduceAdd, Nat.reduceSub, Bool.not_true, Bool.not_false, Bool.false_eq_true, if_true, if_false, reduceIte, Nat.zero_add, decide_true, decide_false, selC, comp_K, tYes, Option.join_some, rIxTH, rIxLH, rLenH, rIsiF, at0, at1, at2, at3, at4, at5, at6, at7, at8, HO.tup.injEq, HO.lst.injEq, reduceCtorEq, false_or, or_false, tyF_non, tyF_bl, tyF_int, tyF_str, exists_const, Int.reduceAdd, Int.reduceMul, Int.reduceSub, gSub, rSetL, tSl, tPart, tNoPart, rSlH, upd_same, upd_upd, rIntB, rListH, tBM, tBM0, rAppend, rClear, tPar, gTupH]
  refine ⟨l, ys, ps, rfl, hl, by omega, hp, fun d kvs g qs H2 g2 hd2 gp gm ky q1 q2 q3 q4 => ?_⟩
  simp only [tSortK, rListD, tSeq, tNext, tRet, tRetN, tIfS, tAsg, gName, tDrop, tVar, tC, tOp, tUn, rI, rI0, rU, rEq, rNe, tTest, tB, tNot, tAnd, tOr, tAndV, tOrV, tNotV, tIf, tCB, tCall, tNil, tCons, tTup, tLst, gTup, gCons, gNil, L2.start, rIsi, rIxT, rIxL, cx_K, tyN_non, tyN_bl, tyN_int, tyN_str, isi_ii, isi_ib, isi_it, isi_il, isi_bi, isi_bb, isi_tt, isi_ni, isi_si, isi_ti, isi_li, isi_di, isi_ll, scal_ii, scal_bb, sz0, sz1, sz2, sz3, sz4, List.map_cons, List.map_nil, List.length_cons, List.length_nil, List.replicate, List.cons_append, List.nil_append, List.append_nil, List.getElem?_cons_zero, List.getElem?_cons_succ, List.set_cons_zero, List.set_cons_succ, Option.some.injEq, V.int.injEq, V.bl.injEq, V.ref.injEq, V.ty.injEq, List.cons.injEq, and_true, true_and, exists_eq_left, exists_eq_left', exists_and_left, exists_and_right, exists_eq, exists_eq', and_assoc, Nat.reduceAdd, Nat.reduceSub, Bool.not_true, Bool.not_false, Bool.false_eq_true, if_true, if_false, reduceIte, Nat.zero_add, decide_true, decide_false, selC, comp_K, tYes, Option.join_some, rIxTH, rIxLH, rLenH, rIsiF, at0, at1, at2, at3, at4, at5, at6, at7, at8, HO.tup.injEq, HO.lst.injEq, reduceCtorEq, false_or, or_false, tyF_non, tyF_bl, tyF_int, tyF_str, exists_const, Int.reduceAdd, Int.reduceMul, Int.reduceSub, gSub, rSetL, tSl, tPart, tNoPart, rSlH, upd_same, upd_upd, rIntB, rListH, tBM, tBM0, rAppend, rClear, tPar, gTupH]
  refine ⟨kvs, hd2, fun bs L lb hb hL => ?_⟩
  have lk : kvs.length = qs.length := by have := congrArg List.length q1; simpa using this
  have hb2 : LR QH H2 (bs.map V.ref) qs := by
    refine ⟨by rw [List.length_map, lb, lk], fun j v hv => ?_⟩
    rw [List.getElem?_map] at hv
    cases eb : bs[j]? with
    | none => rw [eb] at hv; cases hv
    | some b =>
      rw [eb] at hv
      cases hv
      have hj : j < kvs.length := by rw [← lb]; exact (List.getElem?_eq_some_iff.mp eb).1
      have hj' : j < qs.length := by omega
      have ekv := List.getElem?_eq_getElem hj
      have e := congrArg (fun l => l[j]?) q1
      simp only [List.getElem?_map, ekv, List.getElem?_eq_getElem hj', Option.map_some, Option.some.injEq] at e
      have z := hb j b _ eb ekv
      rw [e, kQ_map] at z
      exact ⟨b, qs[j], rfl, List.getElem?_eq_getElem hj', z, mem_pq hp ((q3 _).mp (List.getElem_mem hj'))⟩
  have g3 := same_new hL (HO.lst (bs.map V.ref))
  have hL3 : upd H2 L (HO.lst (bs.map V.ref)) L = some (HO.lst (bs.map V.ref)) := upd_same
  generalize upd H2 L (HO.lst (bs.map V.ref)) = H3 at *
  have lys : ps.length = ys.length := hp.1.symm
  have lbs : (bs.map V.ref).length = qs.length := by rw [List.length_map, lb, lk]
  have g23 := g2.trans g3
  refine ⟨by rw [lbs]; omega, lt.same g23, fun c' H4 st4 lt4 hc4 => ?_⟩
  have hd4 : H4 d = some (.dT kvs) := st4 _ _ ((lt.same g23).ne (g3 _ _ hd2) fun _ z => nomatch z) (g3 _ _ hd2)
  have ts4 : TupSame H3 H4 := fun b xs q => st4.tup (lt.same g23) q
  have ky4 := (ky.ts (ts_same g3)).ts ts4
  have hb4 : LR QH H4 (bs.map V.ref) qs := (hb2.same g3).ts qh_ts ts4
  have z0 : Q3 := ⟨0, 0, 0⟩
  refine ⟨fun i ks H' => Same H4 H' ∧ ks.length = i ∧ ∀ j, j < i → ∃ b, ks[j]? = some (.ref b) ∧ H' b = some (.tup [.int (kyQ g (qs.getD j z0)).1, .int (kyQ g (qs.getD j z0)).2]), ⟨⟨.refl _, rfl, fun j hj => by omega⟩, fun i ks H' q => q.1 _ _ hc4, fun i ks H' q => q.2.1, fun i ks H5 v hv q => ?_, fun ks H5 q => ?_⟩⟩
  · obtain ⟨g5, lk5, q⟩ := q
    obtain ⟨p, f, rfl, hf, hpf⟩ := hb4.2 i v hv
    have hpf5 := hpf.same g5
    have hd5 := g5 _ _ hd4
    obtain ⟨b1, e1, h1⟩ := ky4 f ((q3 f).mp (List.mem_of_getElem? hf))
    simp only [tDGet, tSeq, tNext, tRet, tRetN, tIfS, tAsg, gName, tDrop, tVar, tC, tOp, tUn, rI, rI0, rU, rEq, rNe, tTest, tB, tNot, tAnd, tOr, tAndV, tOrV, tNotV, tIf, tCB, tCall, tNil, tCons, tTup, tLst, gTup, gCons, gNil, L2.start, rIsi, rIxT, rIxL, cx_K, tyN_non, tyN_bl, tyN_int, tyN_str, isi_ii, isi_ib, isi_it, isi_il, isi_bi, isi_bb, isi_tt, isi_ni, isi_si, isi_ti, isi_li, isi_di, isi_ll, scal_ii, scal_bb, sz0, sz1, sz2, sz3, sz4, List.map_cons, List.map_nil, List.length_cons, List.length_nil, List.replicate, List.cons_append, List.nil_append, List.append_nil, List.getElem?_cons_zero, List.getElem?_cons_succ, List.set_cons_zero, List.set_cons_succ, Option.some.injEq, V.int.injEq, V.bl.injEq, V.ref.injEq, V.ty.injEq, List.cons.injEq, and_true, true_and, exists_eq_left, exists_eq_left', exists_and_left, exists_and_right, exists_eq, exists_eq', and_assoc, Nat.reduceAdd, Nat.reduceSub, Bool.not_true, Bool.not_false, Bool.false_eq_true, if_true, if_false, reduceIte, Nat.zero_add, decide_true, decide_false, selC, comp_K, tYes, Option.join_some, rIxTH, rIxLH, rLenH, rIsiF, at0, at1, at2, at3, at4, at5, at6, at7, at8, HO.tup.injEq, HO.lst.injEq, reduceCtorEq, false_or, or_false, tyF_non, tyF_bl, tyF_int, tyF_str, exists_const, Int.reduceAdd, Int.reduceMul, Int.reduceSub, gSub, rSetL, tSl, tPart, tNoPart, rSlH, upd_same, upd_upd, rIntB, rListH, tBM, tBM0, rAppend, rClear, tPar, gTupH]
    refine ⟨_, by rw [← e1]; exact .t (k := kQ f) hd5 hpf5.1, g5, by rw [List.length_append, lk5]; rfl, fun j hj => ?_⟩
    by_cases e : j < i
    · obtain ⟨b, hb1, hb2⟩ := q j e
      exact ⟨b, by rw [List.getElem?_append_left (by omega)]; exact hb1, hb2⟩
    · have ej : j = i := by omega
      subst ej
      have e4 : qs.getD j z0 = f := by rw [List.getD_eq_getElem?_getD, hf]; rfl
      rw [e4]
      exact ⟨b1, by rw [List.getElem?_append_right (by omega), lk5, Nat.sub_self]; rfl, g5 _ _ h1⟩
  · obtain ⟨g5, lk5, q⟩ := q
    refine ⟨_, ⟨fun i => kyQ g (qs.getD i z0), fun i hi => q i (by omega), rfl⟩, fun D pp hD or ep => ?_⟩
    rw [lbs] at or ep
    simp only [ltK_lt2] at ep
    have gw : ∀ f, f ∈ qs → f.w ≤ g := fun f hf => gm f ((q3 f).mp hf)
    have pqs : ∀ f, f ∈ qs → PQ 60 f := fun f hf => mem_pq hp ((q3 f).mp hf)
    have nd : (qs.map (kyQ g)).Nodup := by
      refine List.pairwise_map.mpr (List.Pairwise.imp_of_mem (R := (· ≠ ·)) (fun {a b} ha hb ne => ky_apart (pqs a ha) (pqs b hb) (gw a ha) (gw b hb) ne) q2)
    obtain ⟨pm, pw⟩ := sorted_of sto2 (kyQ g) z0 nd or ep
    have g6 := same_new hD (HO.lst (pp.toList.map fun i => (bs.map V.ref).getD i .non))
    refine k D _ (pp.toList.map fun i => qs.getD i z0) _ (g23.free (?_ : H3 D = none)) (fun b o nb e => g6 _ _ (g5 _ _ (st4 _ _ nb (g23 _ _ e)))) ((lt4.same g5).same g6) upd_same ?_ ⟨?_, fun p => ?_, ?_⟩
    · have h3 := g5.free hD
      cases e : H3 D with
      | none => rfl
      | some o =>
        by_cases nb : D = ad 21
        · obtain ⟨tp, e3, _⟩ := lt4
          rw [← nb, h3] at e3
          cases e3
        · rw [st4 _ _ nb e] at h3
          cases h3
    · have hb6 : LR QH (upd H5 D (HO.lst (pp.toList.map fun i => (bs.map V.ref).getD i .non))) (bs.map V.ref) qs := hb4.same (g5.trans g6)
      refine ⟨by rw [List.length_map, List.length_map], fun j v hv => ?_⟩
      rw [List.getElem?_map] at hv
      cases e : pp.toList[j]? with
      | none => rw [e] at hv; cases hv
      | some i =>
        rw [e] at hv
        have ev : (bs.map V.ref).getD i .non = v := by simpa using hv
        have hi : i < qs.length := List.mem_range.mp (or.mem_iff.mp (List.mem_of_getElem? e))
        obtain ⟨b1, f, e1, e2, e3⟩ := hb6.at (j := i) (by omega)
        rw [List.getD_eq_getElem?_getD, e1] at ev
        refine ⟨b1, f, ev.symm, ?_, e3⟩
        rw [List.getElem?_map, e, Option.map_some, List.getD_eq_getElem?_getD, e2]
        rfl
    · exact List.Pairwise.imp_of_mem (fun {a b} ha hb h => ky_back (pqs a (pm.mem_iff.mp ha)) (pqs b (pm.mem_iff.mp hb)) (gw a (pm.mem_iff.mp ha)) (gw b (pm.mem_iff.mp hb)) h) pw
    · rw [pm.mem_iff, q3]
    · rw [pm.length_eq]
      exact q4
theorem while_at {c : TT} {tb : TS} {D : Ends} {σ : St} {H : Hp} (Pv : St → Hp → Prop) (μ : St → Hp → Nat) (h0 : Pv σ H)
    (hs : ∀ σ H, Pv σ H → c σ H fun b H1 => if b = true then ∃ N : St → Hp → Prop, (∀ σ' H', N σ' H' → ∃ m', m' < μ σ H ∧ m' = μ σ' H' ∧ Pv σ' H') ∧ tb { D with nx := N, ct := N, bk := D.nx } σ H1 else D.nx σ H1) : tWhile c tb D σ H := by
  refine ⟨fun m σ H => m = μ σ H ∧ Pv σ H, ⟨_, rfl, h0⟩, ?_⟩
  rintro m σ H ⟨rfl, p⟩
  exact hs σ H p
theorem half_snoc (os : List Q3) (p : Q3) : half (os ++ [p]) = p :: popW p (half os) := by
  unfold half
  rw [List.foldl_append]
  rfl
theorem half_le (os : List Q3) : (half os).length ≤ os.length := by
  have go : ∀ (os st : List Q3), (os.foldl (fun st p => p :: popW p st) st).length ≤ st.length + os.length := fun os => by
    induction os with
    | nil => intro st; exact Nat.le_refl _
    | cons p os ih =>
      intro st
      have := ih (p :: popW p st)
      have h := (popW_sub p st).length_le
      simp only [List.length_cons, List.foldl_cons] at *
      omega
  have := go os []
  rw [List.length_nil, Nat.zero_add] at this
  exact this
def lenAt (H : Hp) (D : Addr) : Nat := match H D with
  | some (.lst zs) => zs.length
  | _ => 0
theorem lenAt_of {H : Hp} {D : Addr} {zs : List V} (h : H D = some (.lst zs)) : lenAt H D = zs.length := by unfold lenAt; rw [h]
theorem at_two {zs : List V} {a b : V} : atI (zs ++ [a, b]) (-2) = some a ∧ atI (zs ++ [a, b]) (-1) = some b := by
  constructor
  · unfold atI ixN
    simp
    rw [if_pos (by omega)]
    simp
    rw [List.getElem?_append_right (by omega)]
    have : (-2 + ((zs.length : Int) + 2)).toNat - zs.length = 0 := by omega
    rw [this]
    rfl
  · have := atI_last (zs ++ [a]) b
    rw [List.append_assoc] at this
    exact this
theorem cut_m1 (xs : List V) : cutV xs none (some (-1)) = xs.dropLast := by
  unfold cutV
  rw [HT.sIx_none, List.drop_zero, Nat.sub_zero, List.dropLast_eq_take]
  congr 1
  show (if (-1 : Int) < 0 then ((-1 : Int) + (xs.length : Int)).toNat else min (-1 : Int).toNat xs.length) = _
  rw [if_pos (by decide)]
  omega
def sp_half : Sp := fun vs H Q _ => ∃ (l : Addr) (ys : List V) (os : List Q3), vs = [.ref l] ∧ H l = some (.lst ys) ∧ ys.length ≤ 30 ∧ LR QH H ys os ∧ ∀ D zs H', H D = none → Same H H' → H' D = some (.lst zs) → LR QH H' zs (half os).reverse → Q (.ref D) H'
theorem ok_half_round (T : Txt K mg ad fd) : FnOk P w K mg base CX0 4 (ad 7) (fd 7) ["ordered"] sp_half := by
  refine T.half_round.fn.ok sc_half_round (fun vs H Q E h => ?_) (fun cdv A outer s H vs Q E hr h => ?_)
  · obtain ⟨l, ys, os, rfl, _⟩ := h
    rfl
  obtain ⟨l, ys, os, rfl, hl, hn, hp, k⟩ := h
  have qpss3 := @pss3
  have qps_set := @ps_set
  have qpe_lst := @pe_lst
  have qpa_nil := @pa_nil
  have qps_for := @ps_for
  have qpi_list := @pi_list
  have qpv := @pv
  have qpg_name := @pg_name
  have qpss2 := @pss2
  have qps_while := @ps_while
  have qPWpt := @PW.pt
  have qpw_and := @pw_and
  have qpt_cmpR := @pt_cmpR
  have qpe_callB := @pe_callB
  have qpa1 := @pa1
  have qpe_int := @pe_int
  have qpw_and1 := @pw_and1
  have qpe_call := @pe_call
  have qpa3 := @pa3
  have qpe_ix := @pe_ix
  have qpe_un := @pe_un
  have qpss_one := @pss_one
  have qps_expr := @ps_expr
  have qpe_bm0 := @pe_bm0
  have qpe_bm := @pe_bm
  have qps_ret := @ps_ret
  generalize @L2.PE = QE, @L2.PT = QT, @L2.PW = QW, @L2.PA = QA, @L2.PS = QS, @L2.PSs = QSs, @L2.PG = QG, @L2.PGs = QGs, @L2.PI = QI, @L2.PO = QO, @L2.PIf = QIf at qpss3 qps_set qpe_lst qpa_nil qps_for qpi_list qpv qpg_name qpss2 qps_while qPWpt qpw_and qpt_cmpR qpe_callB qpa1 qpe_int qpw_and1 qpe_call qpa3 qpe_ix qpe_un qpss_one qps_expr qpe_bm0 qpe_bm qps_ret ⊢
  refine ⟨_,
    (qpss3
      (qps_set (i := 1) sc_half_round.nd rfl (Or.inl rfl) (qpe_lst qpa_nil))
      (qps_for PassesOwn.never rfl (qpi_list (qpv 0)) (qpg_name (i := 2) sc_half_round.nd rfl (Or.inl rfl)) (qpss2
      (qps_while PassesOwn.never (qPWpt (qpw_and (qpt_cmpR op_gt (qpe_callB call_lenH rfl T.b_len bt_len (qpa1 (qpv 1) ns_Name)) qpe_int (nomark _)) (qpw_and1 (qpt_cmpR op_le (qpe_call (ok_turn T) (hr.mono (by decide)) rfl T.turn.mg T.turn.fn.kp T.turn.bn .nil pass0 (qpa3 (qpe_ix ix_listH (qpv 1) (qpe_un un_neg qpe_int) (fun _ _ => rfl)) ns_Subscript (qpe_ix ix_listH (qpv 1) (qpe_un un_neg qpe_int) (fun _ _ => rfl)) ns_Subscript (qpv 2) ns_Name)) qpe_int (nomark _))))) (qpss_one (qps_expr (qpe_bm0 PySem.F.plainAttrs_list PySem.F.slot_list_pop PySem.F.type_list_pop mt_pop (qpv 1)))))
      (qps_expr (qpe_bm PySem.F.plainAttrs_list PySem.F.slot_list_append PySem.F.type_list_append mt_append (qpv 1) (qpa1 (qpv 2) ns_Name)))))
      (qps_ret (qpv 1)))
    , ?_⟩
  clear  qpss3 qps_set qpe_lst qpa_nil qps_for qpi_list qpv qpg_name qpss2 qps_while qPWpt qpw_and qpt_cmpR qpe_callB qpa1 qpe_int qpw_and1 qpe_call qpa3 qpe_ix qpe_un qpss_one qps_expr qpe_bm0 qpe_bm qps_ret QE QT QW QA QS QSs QG QGs QI QO QIf
  simp only [tSeq, tNext, tRet, tRetN, tIfS, tAsg, gName, tDrop, tVar, tC, tOp, tUn, rI, rI0, rU, rEq, rNe, tTest, tB, tNot, tAnd, tOr, tAndV, tOrV, tNotV, tIf, tCB, tCall, tNil, tCons, tTup, tLst, gTup, gCons, gNil, L2.start, rIsi, rIxT, rIxL, cx_K, tyN_non, tyN_bl, tyN_int, tyN_str, isi_ii, isi_ib, isi_it, isi_il, isi_bi, isi_bb, isi_tt, isi_ni, isi_si, isi_ti, isi_li, isi_di, isi_ll, scal_ii, scal_bb, sz0, sz1, sz2, sz3, sz4, List.map_cons, List.map_nil, List.length_cons, List.length_nil, List.replicate, List.cons_append, List.nil_append, List.append_nil, List.getElem?_cons_zero, List.getElem?_cons_succ, List.set_cons_zero, List.set_cons_succ, Option.some.injEq, V.int.injEq, V.bl.injEq, V.ref.injEq, V.ty.injEq, List.cons.injEq, and_true, true_and, exists_eq_left, exists_eq_left', exists_and_left, exists_and_right, exists_eq, exists_eq', and_assoc, Nat.reduceAdd, Nat.reduceSub, Bool.not_true, Bool.not_false, Bool.false_eq_true, if_true, if_false, reduceIte, Nat.zero_add, decide_true, decide_false, selC, comp_K, tYes, Option.join_some, rIxTH, rIxLH, rLenH, rIsiF, at0, at1, at2, at3, at4, at5, at6, at7, at8, HO.tup.injEq, HO.lst.injEq, reduceCtorEq, false_or, or_false, tyF_non, tyF_bl, tyF_int, tyF_str, exists_const, Int.reduceAdd, Int.reduceMul, Int.reduceSub, gSub, rSetL, tSl, tPart, tNoPart, rSlH, upd_same, upd_upd, rIntB, rListH, tBM, tBM0, rAppend, rClear, tPar, gTupH]
  intro D hD
  have gD := same_new hD (HO.lst [])
  refine tFor_mk ?_
  simp only [iList, tSeq, tNext, tRet, tRetN, tIfS, tAsg, gName, tDrop, tVar, tC, tOp, tUn, rI, rI0, rU, rEq, rNe, tTest, tB, tNot, tAnd, tOr, tAndV, tOrV, tNotV, tIf, tCB, tCall, tNil, tCons, tTup, tLst, gTup, gCons, gNil, L2.start, rIsi, rIxT, rIxL, cx_K, tyN_non, tyN_bl, tyN_int, tyN_str, isi_ii, isi_ib, isi_it, isi_il, isi_bi, isi_bb, isi_tt, isi_ni, isi_si, isi_ti, isi_li, isi_di, isi_ll, scal_ii, scal_bb, sz0, sz1, sz2, sz3, sz4, List.map_cons, List.map_nil, List.length_cons, List.length_nil, List.replicate, List.cons_append, List.nil_append, List.append_nil, List.getElem?_cons_zero, List.getElem?_cons_succ, List.set_cons_zero, List.set_cons_succ, Option.some.injEq, V.int.injEq, V.bl.injEq, V.ref.injEq, V.ty.injEq, List.cons.injEq, and_true, true_and, exists_eq_left, exists_eq_left', exists_and_left, exists_and_right, exists_eq, exists_eq', and_assoc, Nat.reduceAdd, Nat.reduceSub, Bool.not_true, Bool.not_false, Bool.false_eq_true, if_true, if_false, reduceIte, Nat.zero_add, decide_true, decide_false, selC, comp_K, tYes, Option.join_some, rIxTH, rIxLH, rLenH, rIsiF, at0, at1, at2, at3, at4, at5, at6, at7, at8, HO.tup.injEq, HO.lst.injEq, reduceCtorEq, false_or, or_false, tyF_non, tyF_bl, tyF_int, tyF_str, exists_const, Int.reduceAdd, Int.reduceMul, Int.reduceSub, gSub, rSetL, tSl, tPart, tNoPart, rSlH, upd_same, upd_upd, rIntB, rListH, tBM, tBM0, rAppend, rClear, tPar, gTupH]
  refine ⟨⟨_, .of (gD _ _ hl)⟩, ?_⟩
  refine for_list (K := K) (a := l) (xs := ys) (fun i σ H' => Same H H' ∧ ∃ (zs : List V) (o : Option V), σ = [some (.ref l), some (.ref D), o] ∧ H' D = some (.lst zs) ∧ LR QH H' zs (half (os.take i)).reverse) ⟨gD, [], none, rfl, upd_same, by rw [List.take_zero]; exact .nil⟩ (fun i σ H' _ iv => .of (iv.1 _ _ hl)) ?_ ?_
  · rintro i v σ H2 hi ⟨g2, zs, o, rfl, hD2, hz⟩
    obtain ⟨p, r, rfl, hr', hq⟩ := hp.2 i v hi
    have hi' := (List.getElem?_eq_some_iff.mp hi).1
    have eh : half (os.take (i + 1)) = r :: popW r (half (os.take i)) := by rw [List.take_add_one, hr']; exact half_snoc _ _
    have lh : (half (os.take i)).length ≤ 30 := Nat.le_trans (half_le _) (by rw [List.length_take]; omega)
    rw [eh]
    simp only [tSeq, tNext, tRet, tRetN, tIfS, tAsg, gName, tDrop, tVar, tC, tOp, tUn, rI, rI0, rU, rEq, rNe, tTest, tB, tNot, tAnd, tOr, tAndV, tOrV, tNotV, tIf, tCB, tCall, tNil, tCons, tTup, tLst, gTup, gCons, gNil, L2.start, rIsi, rIxT, rIxL, cx_K, tyN_non, tyN_bl, tyN_int, tyN_str, isi_ii, isi_ib, isi_it, isi_il, isi_bi, isi_bb, isi_tt, isi_ni, isi_si, isi_ti, isi_li, isi_di, isi_ll, scal_ii, scal_bb, sz0, sz1, sz2, sz3, sz4, List.map_cons, List.map_nil, List.length_cons, List.length_nil, List.replicate, List.cons_append, List.nil_append, List.append_nil, List.getElem?_cons_zero, List.getElem?_cons_succ, List.set_cons_zero, List.set_cons_succ, Option.some.injEq, V.int.injEq, V.bl.injEq, V.ref.injEq, V.ty.injEq, List.cons.injEq, and_true, true_and, exists_eq_left, exists_eq_left', exists_and_left, exists_and_right, exists_eq, exists_eq', and_assoc, Nat.reduceAdd, Nat.reduceSub, Bool.not_true, Bool.not_false, Bool.false_eq_true, if_true, if_false, reduceIte, Nat.zero_add, decide_true, decide_false, selC, comp_K, tYes, Option.join_some, rIxTH, rIxLH, rLenH, rIsiF, at0, at1, at2, at3, at4, at5, at6, at7, at8, HO.tup.injEq, HO.lst.injEq, reduceCtorEq, false_or, or_false, tyF_non, tyF_bl, tyF_int, tyF_str, exists_const, Int.reduceAdd, Int.reduceMul, Int.reduceSub, gSub, rSetL, tSl, tPart, tNoPart, rSlH, upd_same, upd_upd, rIntB, rListH, tBM, tBM0, rAppend, rClear, tPar, gTupH]
    refine while_at (fun σ H' => Same H H' ∧ ∃ (zs : List V) (st : List Q3), σ = [some (.ref l), some (.ref D), some (.ref p)] ∧ H' D = some (.lst zs) ∧ LR QH H' zs st.reverse ∧ popW r st = popW r (half (os.take i)) ∧ st.length ≤ 30) (fun _ H' => lenAt H' D) ⟨g2, zs, _, rfl, hD2, hz, rfl, lh⟩ ?_
    rintro σ H3 ⟨g3, zs, st, rfl, hD3, hz, ep, ls⟩
    have lz : zs.length = st.length := by rw [hz.1, List.length_reverse]
    simp only [rPop, tSeq, tNext, tRet, tRetN, tIfS, tAsg, gName, tDrop, tVar, tC, tOp, tUn, rI, rI0, rU, rEq, rNe, tTest, tB, tNot, tAnd, tOr, tAndV, tOrV, tNotV, tIf, tCB, tCall, tNil, tCons, tTup, tLst, gTup, gCons, gNil, L2.start, rIsi, rIxT, rIxL, cx_K, tyN_non, tyN_bl, tyN_int, tyN_str, isi_ii, isi_ib, isi_it, isi_il, isi_bi, isi_bb, isi_tt, isi_ni, isi_si, isi_ti, isi_li, isi_di, isi_ll, scal_ii, scal_bb, sz0, sz1, sz2, sz3, sz4, List.map_cons, List.map_nil, List.length_cons, List.length_nil, List.replicate, List.cons_append, List.nil_append, List.append_nil, List.getElem?_cons_zero, List.getElem?_cons_succ, List.set_cons_zero, List.set_cons_succ, Option.some.injEq, V.int.injEq, V.bl.injEq, V.ref.injEq, V.ty.injEq, List.cons.injEq, and_true, true_and, exists_eq_left, exists_eq_left', exists_and_left, exists_and_right, exists_eq, exists_eq', and_assoc, Nat.reduceAdd, Nat.reduceSub, Bool.not_true, Bool.not_false, Bool.false_eq_true, if_true, if_false, reduceIte, Nat.zero_add, decide_true, decide_false, selC, comp_K, tYes, Option.join_some, rIxTH, rIxLH, rLenH, rIsiF, at0, at1, at2, at3, at4, at5, at6, at7, at8, HO.tup.injEq, HO.lst.injEq, reduceCtorEq, false_or, or_false, tyF_non, tyF_bl, tyF_int, tyF_str, exists_const, Int.reduceAdd, Int.reduceMul, Int.reduceSub, gSub, rSetL, tSl, tPart, tNoPart, rSlH, upd_same, upd_upd, rIntB, rListH, tBM, tBM0, rAppend, rClear, tPar, gTupH, hD3]
    have hq3 := hq.same g3
    have fin : ∀ H1, Same H3 H1 → popW r st = st → tyV K "list" (V.ref D) H1 ∧ H1 D = some (.lst zs) ∧ zs.length < sizeLine ∧ Same H (upd H1 D (HO.lst (zs ++ [V.ref p]))) ∧ LR QH (upd H1 D (HO.lst (zs ++ [V.ref p]))) (zs ++ [V.ref p]) (r :: popW r (half (List.take i os))).reverse := fun H1 g1 e => by
      have hD1 := g1 _ _ hD3
      refine ⟨tyV_of hD1, hD1, small1000 (by omega), same_put (g3.trans g1) hD, ?_⟩
      rw [← ep, e, List.reverse_cons]
      exact ((hz.same g1).snoc (hq3.same g1)).ts qh_ts (ts_put hD1)
    match st, hz, ep, ls, lz, fin with
    | [], hz, ep, ls, lz, fin =>
      rw [decide_eq_false (by rw [lz]; decide)]
      obtain ⟨f1, _, f2⟩ := fin H3 (.refl _) rfl
      exact iteF ⟨f1, f2⟩
    | [b], hz, ep, ls, lz, fin =>
      rw [decide_eq_false (by rw [lz]; show ¬ (1 : Int) < ((1 : Nat) : Int); decide)]
      obtain ⟨f1, _, f2⟩ := fin H3 (.refl _) rfl
      exact iteF ⟨f1, f2⟩
    | b :: a :: t, hz, ep, ls, lz, fin =>
      rw [decide_eq_true (by rw [lz]; simp only [List.length_cons]; omega)]
      rw [List.reverse_cons, List.reverse_cons, List.append_assoc] at hz
      obtain ⟨z1, pa, pb, rfl, ha, hb, hz1⟩ := hz.split2
      refine iteT ⟨_, at_two.1, _, at_two.2, pa, pb, p, _, _, _, _, _, _, _, _, _, rfl, ha.tb, hb.tb, hq3.tb, fun H4 g4 => ⟨_, rfl, ite2 (fun c => ?_) (fun c => ?_)⟩⟩
      · have c := of_decide_eq_true c
        have cd : dt a b r ≤ 0 := by
          unfold dt
          rcases sgn_cases (det3 a.x a.y a.w b.x b.y b.w r.x r.y r.w) with ⟨h, e⟩ | ⟨h, e⟩ | ⟨h, e⟩ <;> rw [e] at c <;> omega
        have epop : popW r (b :: a :: t) = popW r (a :: t) := if_pos cd
        have hD4 := g4 _ _ hD3
        refine ⟨fun σ' H' => (Same H H' ∧ ∃ (zs : List V) (st : List Q3), σ' = [some (.ref l), some (.ref D), some (.ref p)] ∧ H' D = some (.lst zs) ∧ LR QH H' zs st.reverse ∧ popW r st = popW r (half (os.take i)) ∧ st.length ≤ 30) ∧ lenAt H' D < lenAt H3 D, ?_, tyV_of hD4, _, hD4, ⟨V.ref pb, ?_⟩, ⟨same_put (g3.trans g4) hD, _, a :: t, rfl, upd_same, ?_, by rw [← epop]; exact ep, by simp only [List.length_cons] at ls ⊢; omega⟩, ?_⟩
        · rintro σ' H' ⟨⟨g', zs', st', e1, e2, e3, e4, e5⟩, hl'⟩
          exact ⟨_, hl', rfl, g', e1, zs', e2, st', e3, e4, e5⟩
        · simp
        · have ed : (z1 ++ [V.ref pa, V.ref pb]).dropLast = z1 ++ [V.ref pa] := by rw [List.dropLast_append_of_ne_nil (by simp)]; rfl
          rw [ed, List.reverse_cons]
          exact (((hz1.snoc ha).same g4)).ts qh_ts (ts_put hD4)
        · rw [lenAt_of upd_same, lenAt_of hD3, List.length_dropLast]
          simp only [List.length_append, List.length_cons, List.length_nil]
          omega
      · have cd : ¬ dt a b r ≤ 0 := fun z => c (decide_eq_true (by
          unfold dt at z
          rcases sgn_cases (det3 a.x a.y a.w b.x b.y b.w r.x r.y r.w) with ⟨h, e⟩ | ⟨h, e⟩ | ⟨h, e⟩ <;> rw [e] <;> omega))
        obtain ⟨f1, f0, f2⟩ := fin H4 g4 (if_neg cd)
        exact ⟨f1, _, f0, f2⟩
  · rintro σ H2 ⟨g2, zs, o, rfl, hD2, hz⟩
    rw [List.take_of_length_le (by rw [hp.1]; exact Nat.le_refl _)] at hz
    simp only [tSeq, tNext, tRet, tRetN, tIfS, tAsg, gName, tDrop, tVar, tC, tOp, tUn, rI, rI0, rU, rEq, rNe, tTest, tB, tNot, tAnd, tOr, tAndV, tOrV, tNotV, tIf, tCB, tCall, tNil, tCons, tTup, tLst, gTup, gCons, gNil, L2.start, rIsi, rIxT, rIxL, cx_K, tyN_non, tyN_bl, tyN_int, tyN_str, isi_ii, isi_ib, isi_it, isi_il, isi_bi, isi_bb, isi_tt, isi_ni, isi_si, isi_ti, isi_li, isi_di, isi_ll, scal_ii, scal_bb, sz0, sz1, sz2, sz3, sz4, List.map_cons, List.map_nil, List.length_cons, List.length_nil, List.replicate, List.cons_append, List.nil_append, List.append_nil, List.getElem?_cons_zero, List.getElem?_cons_succ, List.set_cons_zero, List.set_cons_succ, Option.some.injEq, V.int.injEq, V.bl.injEq, V.ref.injEq, V.ty.injEq, List.cons.injEq, and_true, true_and, exists_eq_left, exists_eq_left', exists_and_left, exists_and_right, exists_eq, exists_eq', and_assoc, Nat.reduceAdd, Nat.reduceSub, Bool.not_true, Bool.not_false, Bool.false_eq_true, if_true, if_false, reduceIte, Nat.zero_add, decide_true, decide_false, selC, comp_K, tYes, Option.join_some, rIxTH, rIxLH, rLenH, rIsiF, at0, at1, at2, at3, at4, at5, at6, at7, at8, HO.tup.injEq, HO.lst.injEq, reduceCtorEq, false_or, or_false, tyF_non, tyF_bl, tyF_int, tyF_str, exists_const, Int.reduceAdd, Int.reduceMul, Int.reduceSub, gSub, rSetL, tSl, tPart, tNoPart, rSlH, upd_same, upd_upd, rIntB, rListH, tBM, tBM0, rAppend, rClear, tPar, gTupH]
    exact k D zs H2 hD g2 hD2 hz
def sp_hull (tb : Addr) (lp : Pos) (ql : Str) : Sp := fun vs H Q _ => ∃ (l : Addr) (ys : List V) (ps : List Q3), vs = [.ref l] ∧ H l = some (.lst ys) ∧ ys.length ≤ 30 ∧ LR QH H ys ps ∧ LamTab H tb lp ql ∧
  ∀ D zs (os : List Q3) H', H D = none → SameT tb H H' → LamTab H' tb lp ql → H' D = some (.lst zs) → OrdOf os ps → LR QH H' zs (hullF os) → Q (.ref D) H'
theorem st_free {tb : Addr} {lp : Pos} {ql : Str} {H H' : Hp} (st : SameT tb H H') (lt : LamTab H' tb lp ql) {D : Addr} (h : H' D = none) : H D = none := by
  cases e : H D with
  | none => rfl
  | some o =>
    by_cases nb : D = tb
    · obtain ⟨tp, e3, _⟩ := lt
      rw [← nb, h] at e3
      cases e3
    · rw [st _ _ nb e] at h
      cases h
theorem ok_hull (T : Txt K mg ad fd) (hK : K.In base) (hB : base.BuiltinsAt mg (ad 21)) : FnOk P w K mg base CX0 5 (ad 6) (fd 6) ["points"] (sp_hull (ad 21) lposB qlB) := by
  refine T.hull.fn.ok sc_hull (fun vs H Q E h => ?_) (fun cdv A outer s H vs Q E hr h => ?_)
  · obtain ⟨l, ys, ps, rfl, _⟩ := h
    rfl
  obtain ⟨l, ys, ps, rfl, hl, h30, hp, lt, k⟩ := h
  have qpss5 := @pss5
  have qps_set := @ps_set
  have qpe_call := @pe_call
  have qpa1 := @pa1
  have qpv := @pv
  have qps_if := @ps_if
  have qpt_cmpR := @pt_cmpR
  have qpe_callB := @pe_callB
  have qpe_int := @pe_int
  have qpss_one := @pss_one
  have qps_ret := @ps_ret
  have qpss_nil := @pss_nil
  have qpe_listRev := @pe_listRev
  have qpe_op := @pe_op
  have qpe_slice := @pe_slice
  have qpo_none := @po_none
  have qpo_some := @po_some
  have qpe_un := @pe_un
  generalize @L2.PE = QE, @L2.PT = QT, @L2.PW = QW, @L2.PA = QA, @L2.PS = QS, @L2.PSs = QSs, @L2.PG = QG, @L2.PGs = QGs, @L2.PI = QI, @L2.PO = QO, @L2.PIf = QIf at qpss5 qps_set qpe_call qpa1 qpv qps_if qpt_cmpR qpe_callB qpe_int qpss_one qps_ret qpss_nil qpe_listRev qpe_op qpe_slice qpo_none qpo_some qpe_un ⊢
  refine ⟨_,
    (qpss5
      (qps_set (i := 1) sc_hull.nd rfl (Or.inl rfl) (qpe_call (ok_in_order T hK hB) (hr.mono (by decide)) rfl T.in_order.mg T.in_order.fn.kp T.in_order.bn .nil pass0 (qpa1 (qpv 0) ns_Name)))
      (qps_if (qpt_cmpR op_lt (qpe_callB call_lenH rfl T.b_len bt_len (qpa1 (qpv 1) ns_Name)) qpe_int (nomark _)) (qpss_one (qps_ret (qpv 1))) qpss_nil)
      (qps_set (i := 2) sc_hull.nd rfl (Or.inl rfl) (qpe_call (ok_half_round T) (hr.mono (by decide)) rfl T.half_round.mg T.half_round.fn.kp T.half_round.bn .nil pass0 (qpa1 (qpv 1) ns_Name)))
      (qps_set (i := 3) sc_hull.nd rfl (Or.inl rfl) (qpe_call (ok_half_round T) (hr.mono (by decide)) rfl T.half_round.mg T.half_round.fn.kp T.half_round.bn .nil pass0 (qpa1 (qpe_listRev rfl rfl T.b_list bt_list rfl T.b_reversed bt_reversed (qpa1 (qpv 1) ns_Name)) ns_Call)))
      (qps_ret (qpe_op op_cat (qpe_slice sl_listH (qpv 2) qpo_none (qpo_some (qpe_un un_neg qpe_int))) (qpe_slice sl_listH (qpv 3) qpo_none (qpo_some (qpe_un un_neg qpe_int))))))
    , ?_⟩
  clear  qpss5 qps_set qpe_call qpa1 qpv qps_if qpt_cmpR qpe_callB qpe_int qpss_one qps_ret qpss_nil qpe_listRev qpe_op qpe_slice qpo_none qpo_some qpe_un QE QT QW QA QS QSs QG QGs QI QO QIf
  simp only [tSeq, tNext, tRet, tRetN, tIfS, tAsg, gName, tDrop, tVar, tC, tOp, tUn, rI, rI0, rU, rEq, rNe, tTest, tB, tNot, tAnd, tOr, tAndV, tOrV, tNotV, tIf, tCB, tCall, tNil, tCons, tTup, tLst, gTup, gCons, gNil, L2.start, rIsi, rIxT, rIxL, cx_K, tyN_non, tyN_bl, tyN_int, tyN_str, isi_ii, isi_ib, isi_it, isi_il, isi_bi, isi_bb, isi_tt, isi_ni, isi_si, isi_ti, isi_li, isi_di, isi_ll, scal_ii, scal_bb, sz0, sz1, sz2, sz3, sz4, List.map_cons, List.map_nil, List.length_cons, List.length_nil, List.replicate, List.cons_append, List.nil_append, List.append_nil, List.getElem?_cons_zero, List.getElem?_cons_succ, List.set_cons_zero, List.set_cons_succ, Option.some.injEq, V.int.injEq, V.bl.injEq, V.ref.injEq, V.ty.injEq, List.cons.injEq, and_true, true_and, exists_eq_left, exists_eq_left', exists_and_left, exists_and_right, exists_eq, exists_eq', and_assoc, Nat.reduceAdd, Nat.reduceSub, Bool.not_true, Bool.not_false, Bool.false_eq_true, if_true, if_false, reduceIte, Nat.zero_add, decide_true, decide_false, selC, comp_K, tYes, Option.join_some, rIxTH, rIxLH, rLenH, rIsiF, at0, at1, at2, at3, at4, at5, at6, at7, at8, HO.tup.injEq, HO.lst.injEq, reduceCtorEq, false_or, or_false, tyF_non, tyF_bl, tyF_int, tyF_str, exists_const, Int.reduceAdd, Int.reduceMul, Int.reduceSub, gSub, rSetL, tSl, tPart, tNoPart, rSlH, upd_same, upd_upd, rIntB, rListH, tBM, tBM0, rAppend, rClear, tPar, gTupH]
  refine ⟨l, ys, ps, rfl, hl, h30, hp, lt, fun D zs os H1 hD st lt1 hD1 hz oo => ?_⟩
  have lo : os.length ≤ 30 := by have := oo.2.2; have := hp.1; omega
  simp only [rRev, tSeq, tNext, tRet, tRetN, tIfS, tAsg, gName, tDrop, tVar, tC, tOp, tUn, rI, rI0, rU, rEq, rNe, tTest, tB, tNot, tAnd, tOr, tAndV, tOrV, tNotV, tIf, tCB, tCall, tNil, tCons, tTup, tLst, gTup, gCons, gNil, L2.start, rIsi, rIxT, rIxL, cx_K, tyN_non, tyN_bl, tyN_int, tyN_str, isi_ii, isi_ib, isi_it, isi_il, isi_bi, isi_bb, isi_tt, isi_ni, isi_si, isi_ti, isi_li, isi_di, isi_ll, scal_ii, scal_bb, sz0, sz1, sz2, sz3, sz4, List.map_cons, List.map_nil, List.length_cons, List.length_nil, List.replicate, List.cons_append, List.nil_append, List.append_nil, List.getElem?_cons_zero, List.getElem?_cons_succ, List.set_cons_zero, List.set_cons_succ, Option.some.injEq, V.int.injEq, V.bl.injEq, V.ref.injEq, V.ty.injEq, List.cons.injEq, and_true, true_and, exists_eq_left, exists_eq_left', exists_and_left, exists_and_right, exists_eq, exists_eq', and_assoc, Nat.reduceAdd, Nat.reduceSub, Bool.not_true, Bool.not_false, Bool.false_eq_true, if_true, if_false, reduceIte, Nat.zero_add, decide_true, decide_false, selC, comp_K, tYes, Option.join_some, rIxTH, rIxLH, rLenH, rIsiF, at0, at1, at2, at3, at4, at5, at6, at7, at8, HO.tup.injEq, HO.lst.injEq, reduceCtorEq, false_or, or_false, tyF_non, tyF_bl, tyF_int, tyF_str, exists_const, Int.reduceAdd, Int.reduceMul, Int.reduceSub, gSub, rSetL, tSl, tPart, tNoPart, rSlH, upd_same, upd_upd, rIntB, rListH, tBM, tBM0, rAppend, rClear, tPar, gTupH, hD1]
  have lz : zs.length = os.length := hz.1
  refine ite2 (fun c => ?_) (fun c => ?_)
  · have c := of_decide_eq_true c
    refine k D zs os H1 hD st lt1 hD1 oo ?_
    unfold hullF
    rw [if_pos (by omega)]
    exact hz
  · have c : ¬ os.length < 3 := fun z => c (decide_eq_true (by omega))
    refine ⟨D, zs, os, rfl, hD1, by omega, hz, fun L ls H2 hL g2 hL2 hls => ⟨zs, g2 _ _ hD1, fun R hR => ?_⟩⟩
    have g3 := same_new hR (HO.lst zs.reverse)
    have hR3 : upd H2 R (HO.lst zs.reverse) R = some (HO.lst zs.reverse) := upd_same
    generalize upd H2 R (HO.lst zs.reverse) = H3 at *
    refine ⟨R, zs.reverse, os.reverse, rfl, hR3, by rw [List.length_reverse]; omega, (hz.reverse).same (g2.trans g3), fun U us H4 hU g4 hU4 hus => ⟨L, rfl, ls, g4 _ _ (g3 _ _ hL2), fun a ha => ?_⟩⟩
    rw [cut_m1]
    have g5 := same_new ha (HO.lst ls.dropLast)
    have ha5 : upd H4 a (HO.lst ls.dropLast) a = some (HO.lst ls.dropLast) := upd_same
    generalize upd H4 a (HO.lst ls.dropLast) = H5 at *
    refine ⟨U, rfl, us, g5 _ _ hU4, fun b hb => ?_⟩
    rw [cut_m1]
    have g6 := same_new hb (HO.lst us.dropLast)
    have hb6 : upd H5 b (HO.lst us.dropLast) b = some (HO.lst us.dropLast) := upd_same
    generalize upd H5 b (HO.lst us.dropLast) = H6 at *
    have l1 : ls.length ≤ 30 := by rw [hls.1, List.length_reverse]; exact Nat.le_trans (half_le _) lo
    have l2 : us.length ≤ 30 := by rw [hus.1, List.length_reverse]; exact Nat.le_trans (half_le _) (by rw [List.length_reverse]; exact lo)
    refine ⟨a, b, _, _, rfl, rfl, g6 _ _ ha5, hb6, Nat.le_of_lt (small1000 (by rw [List.length_dropLast, List.length_dropLast]; omega)), fun F hF => ?_⟩
    have g7 := same_new hF (HO.lst (ls.dropLast ++ us.dropLast))
    have g26 := g2.trans (g3.trans (g4.trans (g5.trans g6)))
    refine k F _ os _ (st_free st lt1 (g26.free hF)) (st.trans (.of (g26.trans g7))) (lt1.same (g26.trans g7)) upd_same oo ?_
    unfold hullF hullOf
    rw [if_neg c]
    exact ((hls.dropLast.same (g3.trans (g4.trans (g5.trans g6)))).app (hus.dropLast.same (g5.trans g6))).same g7
theorem at_ints {xs : List Int} {j : Int} (h0 : 0 ≤ j) (h1 : j < xs.length) : ∃ x : Int, atI (xs.map V.int) j = some (.int x) := by
  have hk : j.toNat < xs.length := by omega
  refine ⟨xs[j.toNat], ?_⟩
  have z : atI (xs.map V.int) ((j.toNat : Nat) : Int) = some (.int xs[j.toNat]) := atI_nat (by rw [List.getElem?_map, List.getElem?_eq_getElem hk]; rfl)
  rw [show ((j.toNat : Nat) : Int) = j by omega] at z
  exact z
def sp_points (K : PySem.W.Frag) : Sp := fun vs H Q _ => ∃ (a : Addr) (ns : List Int), vs = [.ref a] ∧ SqL K H a (ns.map V.int) ∧ ∀ D ys (ps : List Q3) H', H D = none → Same H H' → H' D = some (.lst ys) → ys.length ≤ 24 → LR QH H' ys ps → Q (.ref D) H'
theorem ok_law_points (T : Txt K mg ad fd) : FnOk P w K mg base CX0 4 (ad 15) (fd 15) ["_law_script"] (sp_points K) := by
  refine T.law_points.fn.ok sc_law_points (fun vs H Q E h => ?_) (fun cdv A outer s H vs Q E hr h => ?_)
  · obtain ⟨a, ns, rfl, _⟩ := h
    rfl
  obtain ⟨a, ns, rfl, hS, k⟩ := h
  have qpss7 := @pss7
  have qps_set := @ps_set
  have qpe_call := @pe_call
  have qpa2 := @pa2
  have qpv := @pv
  have qpe_int := @pe_int
  have qpe_op := @pe_op
  have qpe_lst := @pe_lst
  have qpa_nil := @pa_nil
  have qps_for := @ps_for
  have qpi_range1 := @pi_range1
  have qpa1 := @pa1
  have qpg_name := @pg_name
  have qpss2 := @pss2
  have qps_if := @ps_if
  have qpt_cmpR := @pt_cmpR
  have qpss3 := @pss3
  have qpe_ix := @pe_ix
  have qpa5 := @pa5
  have qpe_tup := @pe_tup
  have qpe_un := @pe_un
  have qps_expr := @ps_expr
  have qpe_bm := @pe_bm
  have qpa3 := @pa3
  have qpss_one := @pss_one
  have qpe_callB := @pe_callB
  have qpss_nil := @pss_nil
  have qps_ret := @ps_ret
  generalize @L2.PE = QE, @L2.PT = QT, @L2.PW = QW, @L2.PA = QA, @L2.PS = QS, @L2.PSs = QSs, @L2.PG = QG, @L2.PGs = QGs, @L2.PI = QI, @L2.PO = QO, @L2.PIf = QIf at qpss7 qps_set qpe_call qpa2 qpv qpe_int qpe_op qpe_lst qpa_nil qps_for qpi_range1 qpa1 qpg_name qpss2 qps_if qpt_cmpR qpss3 qpe_ix qpa5 qpe_tup qpe_un qps_expr qpe_bm qpa3 qpss_one qpe_callB qpss_nil qps_ret ⊢
  refine ⟨_,
    (qpss7
      (qps_set (i := 1) sc_law_points.nd rfl (Or.inl rfl) (qpe_call (ok_law_cell_at T) (hr.mono (by decide)) rfl T.law_cell_at.mg T.law_cell_at.fn.kp T.law_cell_at.bn .nil pass0 (qpa2 (qpv 0) ns_Name qpe_int ns_Constant)))
      (qps_set (i := 2) sc_law_points.nd rfl (Or.inl rfl) (qpe_call (ok_law_stream T) (hr.mono (by decide)) rfl T.law_stream.mg T.law_stream.fn.kp T.law_stream.bn .nil pass0 (qpa2 (qpe_call (ok_law_cell_at T) (hr.mono (by decide)) rfl T.law_cell_at.mg T.law_cell_at.fn.kp T.law_cell_at.bn .nil pass0 (qpa2 (qpv 0) ns_Name qpe_int ns_Constant)) ns_Call qpe_int ns_Constant)))
      (qps_set (i := 3) sc_law_points.nd rfl (Or.inl rfl) (qpe_op op_mod (qpv 1) qpe_int))
      (qps_set (i := 4) sc_law_points.nd rfl (Or.inl rfl) (qpe_op op_mod (qpe_op op_fdiv (qpv 1) qpe_int) qpe_int))
      (qps_set (i := 5) sc_law_points.nd rfl (Or.inl rfl) (qpe_lst qpa_nil))
      (qps_for PassesOwn.never rfl (qpi_range1 rfl T.b_range (qpa1 (qpv 3) ns_Name)) (qpg_name (i := 6) sc_law_points.nd rfl (Or.inl rfl)) (qpss2
      (qps_if (qpt_cmpR op_eq (qpv 4) qpe_int (nomark _)) (qpss3
      (qps_set (i := 7) sc_law_points.nd rfl (Or.inl rfl) (qpe_ix ix_listH (qpe_lst (qpa5 (qpe_tup (qpa2 qpe_int ns_Constant qpe_int ns_Constant)) ns_Tuple (qpe_tup (qpa2 qpe_int ns_Constant qpe_int ns_Constant)) ns_Tuple (qpe_tup (qpa2 qpe_int ns_Constant qpe_int ns_Constant)) ns_Tuple (qpe_tup (qpa2 qpe_int ns_Constant (qpe_un un_neg qpe_int) ns_UnaryOp)) ns_Tuple (qpe_tup (qpa2 qpe_int ns_Constant qpe_int ns_Constant)) ns_Tuple)) (qpe_op op_mod (qpe_ix ix_listH (qpv 2) qpe_int (fun _ _ => rfl)) qpe_int) (fun _ _ => rfl)))
      (qps_set (i := 8) sc_law_points.nd rfl (Or.inl rfl) (qpe_op op_sub (qpe_op op_mod (qpe_ix ix_listH (qpv 2) (qpv 6) (fun _ _ => rfl)) qpe_int) qpe_int))
      (qps_expr (qpe_bm PySem.F.plainAttrs_list PySem.F.slot_list_append PySem.F.type_list_append mt_append (qpv 5) (qpa1 (qpe_call (ok_law_lowest T) (hr.mono (by decide)) rfl T.law_lowest.mg T.law_lowest.fn.kp T.law_lowest.bn .nil pass0 (qpa3 (qpe_op op_mulB (qpv 8) (qpe_ix ix_tupH (qpv 7) qpe_int (fun _ _ => rfl))) ns_BinOp (qpe_op op_mulB (qpv 8) (qpe_ix ix_tupH (qpv 7) qpe_int (fun _ _ => rfl))) ns_BinOp (qpe_op op_add qpe_int (qpe_op op_mod (qpe_ix ix_listH (qpv 2) qpe_int (fun _ _ => rfl)) qpe_int)) ns_BinOp)) ns_Call)))) (qpss_one (qps_expr (qpe_bm PySem.F.plainAttrs_list PySem.F.slot_list_append PySem.F.type_list_append mt_append (qpv 5) (qpa1 (qpe_call (ok_law_point T) (hr.mono (by decide)) rfl T.law_point.mg T.law_point.fn.kp T.law_point.bn .nil pass0 (qpa2 (qpe_ix ix_listH (qpv 2) (qpv 6) (fun _ _ => rfl)) ns_Subscript (qpv 4) ns_Name)) ns_Call)))))
      (qps_if (qpt_cmpR op_eq (qpe_op op_mod (qpe_op op_fdiv (qpe_ix ix_listH (qpv 2) (qpv 6) (fun _ _ => rfl)) qpe_int) qpe_int) qpe_int (nomark _)) (qpss_one (qps_expr (qpe_bm PySem.F.plainAttrs_list PySem.F.slot_list_append PySem.F.type_list_append mt_append (qpv 5) (qpa1 (qpe_ix ix_listH (qpv 5) (qpe_op op_modN (qpe_op op_fdiv (qpe_ix ix_listH (qpv 2) (qpv 6) (fun _ _ => rfl)) qpe_int) (qpe_callB call_lenH rfl T.b_len bt_len (qpa1 (qpv 5) ns_Name))) (fun _ _ => rfl)) ns_Subscript)))) qpss_nil)))
      (qps_ret (qpv 5)))
    , ?_⟩
  clear  qpss7 qps_set qpe_call qpa2 qpv qpe_int qpe_op qpe_lst qpa_nil qps_for qpi_range1 qpa1 qpg_name qpss2 qps_if qpt_cmpR qpss3 qpe_ix qpa5 qpe_tup qpe_un qps_expr qpe_bm qpa3 qpss_one qpe_callB qpss_nil qps_ret QE QT QW QA QS QSs QG QGs QI QO QIf
  simp only [sp_cell, tSeq, tNext, tRet, tRetN, tIfS, tAsg, gName, tDrop, tVar, tC, tOp, tUn, rI, rI0, rU, rEq, rNe, tTest, tB, tNot, tAnd, tOr, tAndV, tOrV, tNotV, tIf, tCB, tCall, tNil, tCons, tTup, tLst, gTup, gCons, gNil, L2.start, rIsi, rIxT, rIxL, cx_K, tyN_non, tyN_bl, tyN_int, tyN_str, isi_ii, isi_ib, isi_it, isi_il, isi_bi, isi_bb, isi_tt, isi_ni, isi_si, isi_ti, isi_li, isi_di, isi_ll, scal_ii, scal_bb, sz0, sz1, sz2, sz3, sz4, List.map_cons, List.map_nil, List.length_cons, List.length_nil, List.replicate, List.cons_append, List.nil_append, List.append_nil, List.getElem?_cons_zero, List.getElem?_cons_succ, List.set_cons_zero, List.set_cons_succ, Option.some.injEq, V.int.injEq, V.bl.injEq, V.ref.injEq, V.ty.injEq, List.cons.injEq, and_true, true_and, exists_eq_left, exists_eq_left', exists_and_left, exists_and_right, exists_eq, exists_eq', and_assoc, Nat.reduceAdd, Nat.reduceSub, Bool.not_true, Bool.not_false, Bool.false_eq_true, if_true, if_false, reduceIte, Nat.zero_add, decide_true, decide_false, selC, comp_K, tYes, Option.join_some, rIxTH, rIxLH, rLenH, rIsiF, at0, at1, at2, at3, at4, at5, at6, at7, at8, HO.tup.injEq, HO.lst.injEq, reduceCtorEq, false_or, or_false, tyF_non, tyF_bl, tyF_int, tyF_str, exists_const, Int.reduceAdd, Int.reduceMul, Int.reduceSub, gSub, rSetL, tSl, tPart, tNoPart, rSlH, upd_same, upd_upd, rIntB, rListH, tBM, tBM0, rAppend, rClear, tPar, gTupH]
  refine ⟨ns, hS, by decide, ns, hS, by decide, ?_⟩
  refine ⟨_, rfl, fun X xs H1 hX g1 hX1 lx => ⟨by decide, ⟨by decide, by decide⟩, by decide, fun D hD => ?_⟩⟩
  have gD := same_new hD (HO.lst [])
  have nD := g1.free hD
  have m0 := Int.emod_nonneg (ns.getD (Int.toNat 0) 0) (show (13 : Int) ≠ 0 by decide)
  have m1 := Int.emod_lt_of_pos (ns.getD (Int.toNat 0) 0) (show (0 : Int) < 13 by decide)
  generalize ns.getD (Int.toNat 0) 0 % 13 = many at *
  generalize ns.getD (Int.toNat 0) 0 / 13 % 4 = kind at *
  generalize ns.getD (Int.toNat 0) 0 = first at *
  refine tFor_mk ?_
  simp only [iRng1, tSeq, tNext, tRet, tRetN, tIfS, tAsg, gName, tDrop, tVar, tC, tOp, tUn, rI, rI0, rU, rEq, rNe, tTest, tB, tNot, tAnd, tOr, tAndV, tOrV, tNotV, tIf, tCB, tCall, tNil, tCons, tTup, tLst, gTup, gCons, gNil, L2.start, rIsi, rIxT, rIxL, cx_K, tyN_non, tyN_bl, tyN_int, tyN_str, isi_ii, isi_ib, isi_it, isi_il, isi_bi, isi_bb, isi_tt, isi_ni, isi_si, isi_ti, isi_li, isi_di, isi_ll, scal_ii, scal_bb, sz0, sz1, sz2, sz3, sz4, List.map_cons, List.map_nil, List.length_cons, List.length_nil, List.replicate, List.cons_append, List.nil_append, List.append_nil, List.getElem?_cons_zero, List.getElem?_cons_succ, List.set_cons_zero, List.set_cons_succ, Option.some.injEq, V.int.injEq, V.bl.injEq, V.ref.injEq, V.ty.injEq, List.cons.injEq, and_true, true_and, exists_eq_left, exists_eq_left', exists_and_left, exists_and_right, exists_eq, exists_eq', and_assoc, Nat.reduceAdd, Nat.reduceSub, Bool.not_true, Bool.not_false, Bool.false_eq_true, if_true, if_false, reduceIte, Nat.zero_add, decide_true, decide_false, selC, comp_K, tYes, Option.join_some, rIxTH, rIxLH, rLenH, rIsiF, at0, at1, at2, at3, at4, at5, at6, at7, at8, HO.tup.injEq, HO.lst.injEq, reduceCtorEq, false_or, or_false, tyF_non, tyF_bl, tyF_int, tyF_str, exists_const, Int.reduceAdd, Int.reduceMul, Int.reduceSub, gSub, rSetL, tSl, tPart, tNoPart, rSlH, upd_same, upd_upd, rIntB, rListH, tBM, tBM0, rAppend, rClear, tPar, gTupH]
  refine ⟨by omega, by omega, for_range (fun i σ H' => Same H H' ∧ ∃ (ys : List V) (ps : List Q3) (o1 o2 o3 : Option V), σ = [some (V.ref a), some (V.int first), some (V.ref X), some (V.int many), some (V.int kind), some (V.ref D), o1, o2, o3] ∧ H' X = some (.lst (xs.map V.int)) ∧ H' D = some (.lst ys) ∧ ys.length ≤ 2 * i ∧ LR QH H' ys ps) ⟨g1.trans gD, [], [], none, none, none, rfl, gD _ _ hX1, upd_same, Nat.zero_le _, .nil⟩ ?_ ?_⟩
  · rintro i σ H2 hi ⟨g2, ys, ps, o1, o2, o3, rfl, hX2, hD2, hn, hp⟩
    have i12 : i < 13 := by omega
    obtain ⟨x, ax⟩ := at_ints (xs := xs) (j := (i : Int)) (by omega) (by omega)
    obtain ⟨x23, a23⟩ := at_ints (xs := xs) (j := 23) (by omega) (by omega)
    obtain ⟨x22, a22⟩ := at_ints (xs := xs) (j := 22) (by omega) (by omega)
    have nXD : X ≠ D := fun z => by rw [z, hD] at hX1; cases hX1
    have lys : ps.length = ys.length := hp.1.symm
    have pick : ∀ (H4 : Hp) (pp : Addr) (r : Q3), LR QH H4 (ys ++ [.ref pp]) (ps ++ [r]) → ∃ (v : Addr) (q : Q3), atI (ys ++ [V.ref pp]) ((x / 16384).fmod ((ys ++ [V.ref pp]).length : Int)) = some (V.ref v) ∧ QH H4 v q := fun H4 pp r hl => by
      have l1 : 0 < (ys ++ [V.ref pp]).length := by simp
      have f0 := Int.fmod_nonneg_of_pos (x / 16384) (show (0 : Int) < ((ys ++ [V.ref pp]).length : Int) by omega)
      have f1 := Int.fmod_lt_of_pos (x / 16384) (show (0 : Int) < ((ys ++ [V.ref pp]).length : Int) by omega)
      generalize (x / 16384).fmod ((ys ++ [V.ref pp]).length : Int) = m at *
      obtain ⟨v, q, e1, _, e3⟩ := hl.at (j := m.toNat) (by omega)
      have e := atI_nat e1
      rw [show ((m.toNat : Nat) : Int) = m by omega] at e
      exact ⟨v, q, e, e3⟩
    have tailG : ∀ (H4 : Hp) (pp : Addr) (r : Q3), Same H2 H4 → QH H4 pp r → ∃ x_2, H4 D = some (HO.lst x_2) ∧ x_2.length < sizeLine ∧ ∃ x_3, upd H4 D (HO.lst (x_2 ++ [V.ref pp])) X = some (HO.lst x_3) ∧ ∃ x_4, atI x_3 ↑i = some x_4 ∧ ∃ i_2, x_4 = V.int i_2 ∧ CDiv i_2 4096 ∧ (0 : Int) < 4 ∧
        if decide (i_2 / 4096 % 4 = 0) = true then tyV K "list" (V.ref D) (upd H4 D (HO.lst (x_2 ++ [V.ref pp]))) ∧ ∃ x_5, upd H4 D (HO.lst (x_2 ++ [V.ref pp])) X = some (HO.lst x_5) ∧ ∃ x_6, atI x_5 ↑i = some x_6 ∧ ∃ i_3, x_6 = V.int i_3 ∧ CDiv i_3 16384 ∧ (((x_2 ++ [V.ref pp]).length : Nat) : Int) ≠ 0 ∧ ∃ x_7, atI (x_2 ++ [V.ref pp]) ((i_3 / 16384).fmod ((x_2 ++ [V.ref pp]).length : Int)) = some x_7 ∧ (x_2 ++ [V.ref pp]).length < sizeLine ∧ Same H (upd H4 D (HO.lst (x_2 ++ [V.ref pp] ++ [x_7]))) ∧ upd H4 D (HO.lst (x_2 ++ [V.ref pp] ++ [x_7])) X = some (HO.lst (List.map V.int xs)) ∧ (x_2 ++ [V.ref pp] ++ [x_7]).length ≤ 2 * (i + 1) ∧ ∃ x_8, LR QH (upd H4 D (HO.lst (x_2 ++ [V.ref pp] ++ [x_7]))) (x_2 ++ [V.ref pp] ++ [x_7]) x_8
        else Same H (upd H4 D (HO.lst (x_2 ++ [V.ref pp]))) ∧ upd H4 D (HO.lst (x_2 ++ [V.ref pp])) X = some (HO.lst (List.map V.int xs)) ∧ (x_2 ++ [V.ref pp]).length ≤ 2 * (i + 1) ∧ ∃ x_5, LR QH (upd H4 D (HO.lst (x_2 ++ [V.ref pp]))) (x_2 ++ [V.ref pp]) x_5 := fun H4 pp r g4 hq => by
      have hD4 := g4 _ _ hD2
      have hX4 := g4 _ _ hX2
      have hl4 := (hp.same g4).snoc hq
      obtain ⟨v, q, e6, hv⟩ := pick H4 pp r hl4
      have hXn : ∀ o, upd H4 D o X = some (.lst (xs.map V.int)) := fun o => by rw [upd_ne nXD]; exact hX4
      refine ⟨ys, hD4, small1000 (by omega), _, hXn _, _, ax, x, rfl, ⟨by decide, by decide⟩, by decide, ite2 (fun _ => ?_) (fun _ => ?_)⟩
      · refine ⟨tyV_of upd_same, _, hXn _, _, ax, x, rfl, ⟨by decide, by decide⟩, by rw [List.length_append, List.length_singleton]; omega, _, e6, small1000 (by rw [List.length_append, List.length_singleton]; omega), same_put (g2.trans g4) nD, hXn _, by simp only [List.length_append, List.length_singleton]; omega, _, (hl4.snoc hv).ts qh_ts (ts_put hD4)⟩
      · exact ⟨same_put (g2.trans g4) nD, hXn _, by rw [List.length_append, List.length_singleton]; omega, _, hl4.ts qh_ts (ts_put hD4)⟩
    simp only [tSeq, tNext, tRet, tRetN, tIfS, tAsg, gName, tDrop, tVar, tC, tOp, tUn, rI, rI0, rU, rEq, rNe, tTest, tB, tNot, tAnd, tOr, tAndV, tOrV, tNotV, tIf, tCB, tCall, tNil, tCons, tTup, tLst, gTup, gCons, gNil, L2.start, rIsi, rIxT, rIxL, cx_K, tyN_non, tyN_bl, tyN_int, tyN_str, isi_ii, isi_ib, isi_it, isi_il, isi_bi, isi_bb, isi_tt, isi_ni, isi_si, isi_ti, isi_li, isi_di, isi_ll, scal_ii, scal_bb, sz0, sz1, sz2, sz3, sz4, List.map_cons, List.map_nil, List.length_cons, List.length_nil, List.replicate, List.cons_append, List.nil_append, List.append_nil, List.getElem?_cons_zero, List.getElem?_cons_succ, List.set_cons_zero, List.set_cons_succ, Option.some.injEq, V.int.injEq, V.bl.injEq, V.ref.injEq, V.ty.injEq, List.cons.injEq, and_true, true_and, exists_eq_left, exists_eq_left', exists_and_left, exists_and_right, exists_eq, exists_eq', and_assoc, Nat.reduceAdd, Nat.reduceSub, Bool.not_true, Bool.not_false, Bool.false_eq_true, if_true, if_false, reduceIte, Nat.zero_add, decide_true, decide_false, selC, comp_K, tYes, Option.join_some, rIxTH, rIxLH, rLenH, rIsiF, at0, at1, at2, at3, at4, at5, at6, at7, at8, HO.tup.injEq, HO.lst.injEq, reduceCtorEq, false_or, or_false, tyF_non, tyF_bl, tyF_int, tyF_str, exists_const, Int.reduceAdd, Int.reduceMul, Int.reduceSub, gSub, rSetL, tSl, tPart, tNoPart, rSlH, upd_same, upd_upd, rIntB, rListH, tBM, tBM0, rAppend, rClear, tPar, gTupH, Int.zero_add, hX2, ax, a23]
    refine ite2 (fun _ => ?_) (fun _ => ?_)
    · intro p1 n1
      have g1' := same_new n1 (HO.tup [V.int 1, V.int 0])
      have h1 : upd H2 p1 (HO.tup [V.int 1, V.int 0]) p1 = some (HO.tup [V.int 1, V.int 0]) := upd_same
      generalize upd H2 p1 (HO.tup [V.int 1, V.int 0]) = K1 at *
      intro p2 n2
      have g2' := same_new n2 (HO.tup [V.int 0, V.int 1])
      have h2 : upd K1 p2 (HO.tup [V.int 0, V.int 1]) p2 = some (HO.tup [V.int 0, V.int 1]) := upd_same
      generalize upd K1 p2 (HO.tup [V.int 0, V.int 1]) = K2 at *
      intro p3 n3
      have g3' := same_new n3 (HO.tup [V.int 1, V.int 1])
      have h3 : upd K2 p3 (HO.tup [V.int 1, V.int 1]) p3 = some (HO.tup [V.int 1, V.int 1]) := upd_same
      generalize upd K2 p3 (HO.tup [V.int 1, V.int 1]) = K3 at *
      intro p4 n4
      have g4' := same_new n4 (HO.tup [V.int 2, V.int (-1)])
      have h4 : upd K3 p4 (HO.tup [V.int 2, V.int (-1)]) p4 = some (HO.tup [V.int 2, V.int (-1)]) := upd_same
      generalize upd K3 p4 (HO.tup [V.int 2, V.int (-1)]) = K4 at *
      intro p5 n5
      have g5' := same_new n5 (HO.tup [V.int 1, V.int 3])
      have h5 : upd K4 p5 (HO.tup [V.int 1, V.int 3]) p5 = some (HO.tup [V.int 1, V.int 3]) := upd_same
      generalize upd K4 p5 (HO.tup [V.int 1, V.int 3]) = K5 at *
      refine ⟨by decide, fun L nL => ?_⟩
      have g6' := same_new nL (HO.lst [V.ref p1, V.ref p2, V.ref p3, V.ref p4, V.ref p5])
      generalize upd K5 L (HO.lst [V.ref p1, V.ref p2, V.ref p3, V.ref p4, V.ref p5]) = K6 at *
      have g46 := g5'.trans g6'
      have g36 := g4'.trans g46
      have g26 := g3'.trans g36
      have g16 := g2'.trans g26
      have g06 := g1'.trans g16
      have hX6 := g06 _ _ hX2
      have hD6 := g06 _ _ hD2
      obtain ⟨W, w0, w1, aW, hW, lw0, lw1⟩ : ∃ (W : Addr) (w0 w1 : Int), atI [V.ref p1, V.ref p2, V.ref p3, V.ref p4, V.ref p5] (x23 % 5) = some (V.ref W) ∧ K6 W = some (.tup [.int w0, .int w1]) ∧ w0.natAbs < 2 ^ 3 ∧ w1.natAbs < 2 ^ 3 := by
        rcases (by omega : x23 % 5 = 0 ∨ x23 % 5 = 1 ∨ x23 % 5 = 2 ∨ x23 % 5 = 3 ∨ x23 % 5 = 4) with e | e | e | e | e
        · rw [e]; exact ⟨p1, _, _, at0, g16 _ _ h1, by decide, by decide⟩
        · rw [e]; exact ⟨p2, _, _, at1, g26 _ _ h2, by decide, by decide⟩
        · rw [e]; exact ⟨p3, _, _, at2, g36 _ _ h3, by decide, by decide⟩
        · rw [e]; exact ⟨p4, _, _, at3, g46 _ _ h4, by decide, by decide⟩
        · rw [e]; exact ⟨p5, _, _, at4, g6' _ _ h5, by decide, by decide⟩
      refine ⟨_, hX6, _, a23, _, rfl, by decide, _, aW, ?_⟩
      simp only [tSeq, tNext, tRet, tRetN, tIfS, tAsg, gName, tDrop, tVar, tC, tOp, tUn, rI, rI0, rU, rEq, rNe, tTest, tB, tNot, tAnd, tOr, tAndV, tOrV, tNotV, tIf, tCB, tCall, tNil, tCons, tTup, tLst, gTup, gCons, gNil, L2.start, rIsi, rIxT, rIxL, cx_K, tyN_non, tyN_bl, tyN_int, tyN_str, isi_ii, isi_ib, isi_it, isi_il, isi_bi, isi_bb, isi_tt, isi_ni, isi_si, isi_ti, isi_li, isi_di, isi_ll, scal_ii, scal_bb, sz0, sz1, sz2, sz3, sz4, List.map_cons, List.map_nil, List.length_cons, List.length_nil, List.replicate, List.cons_append, List.nil_append, List.append_nil, List.getElem?_cons_zero, List.getElem?_cons_succ, List.set_cons_zero, List.set_cons_succ, Option.some.injEq, V.int.injEq, V.bl.injEq, V.ref.injEq, V.ty.injEq, List.cons.injEq, and_true, true_and, exists_eq_left, exists_eq_left', exists_and_left, exists_and_right, exists_eq, exists_eq', and_assoc, Nat.reduceAdd, Nat.reduceSub, Bool.not_true, Bool.not_false, Bool.false_eq_true, if_true, if_false, reduceIte, Nat.zero_add, decide_true, decide_false, selC, comp_K, tYes, Option.join_some, rIxTH, rIxLH, rLenH, rIsiF, at0, at1, at2, at3, at4, at5, at6, at7, at8, HO.tup.injEq, HO.lst.injEq, reduceCtorEq, false_or, or_false, tyF_non, tyF_bl, tyF_int, tyF_str, exists_const, Int.reduceAdd, Int.reduceMul, Int.reduceSub, gSub, rSetL, tSl, tPart, tNoPart, rSlH, upd_same, upd_upd, rIntB, rListH, tBM, tBM0, rAppend, rClear, tPar, gTupH, hX6, ax, hW]
      have e10 : (2 : Nat) ^ 10 = 1024 := rfl
      have f1 : (x % 9 - 4).natAbs < 2 ^ 10 := by omega
      generalize x % 9 - 4 = st at *
      have bd : ∀ {u v : Int}, u.natAbs < 2 ^ 10 → v.natAbs < 2 ^ 3 → (u * v).natAbs < 2 ^ 60 := fun h1 h2 => lt_mono (mul_lt h1 h2) (by decide)
      have b3 : (1 + x22 % 3).natAbs < 2 ^ 60 := by
        have e60 : (2 : Nat) ^ 60 = 1152921504606846976 := rfl
        omega
      exact ⟨by decide, tyV_of hD6, cbig f1 lw0, cbig f1 lw1, _, a22, _, rfl, by decide, 60, _, _, _, rfl, by decide, ⟨bd f1 lw0, bd f1 lw1, b3⟩, by omega, fun pp H7 a b c g7 h7 => tailG H7 pp ⟨a, b, c⟩ (g06.trans g7) h7⟩
    · exact ⟨tyV_of hD2, _, _, rfl, fun pp H7 a b c g7 h7 => tailG H7 pp ⟨a, b, c⟩ g7 h7⟩
  · rintro σ H2 ⟨g2, ys, ps, o1, o2, o3, rfl, hX2, hD2, hn, hp⟩
    simp only [tSeq, tNext, tRet, tRetN, tIfS, tAsg, gName, tDrop, tVar, tC, tOp, tUn, rI, rI0, rU, rEq, rNe, tTest, tB, tNot, tAnd, tOr, tAndV, tOrV, tNotV, tIf, tCB, tCall, tNil, tCons, tTup, tLst, gTup, gCons, gNil, L2.start, rIsi, rIxT, rIxL, cx_K, tyN_non, tyN_bl, tyN_int, tyN_str, isi_ii, isi_ib, isi_it, isi_il, isi_bi, isi_bb, isi_tt, isi_ni, isi_si, isi_ti, isi_li, isi_di, isi_ll, scal_ii, scal_bb, sz0, sz1, sz2, sz3, sz4, List.map_cons, List.map_nil, List.length_cons, List.length_nil, List.replicate, List.cons_append, List.nil_append, List.append_nil, List.getElem?_cons_zero, List.getElem?_cons_succ, List.set_cons_zero, List.set_cons_succ, Option.some.injEq, V.int.injEq, V.bl.injEq, V.ref.injEq, V.ty.injEq, List.cons.injEq, and_true, true_and, exists_eq_left, exists_eq_left', exists_and_left, exists_and_right, exists_eq, exists_eq', and_assoc, Nat.reduceAdd, Nat.reduceSub, Bool.not_true, Bool.not_false, Bool.false_eq_true, if_true, if_false, reduceIte, Nat.zero_add, decide_true, decide_false, selC, comp_K, tYes, Option.join_some, rIxTH, rIxLH, rLenH, rIsiF, at0, at1, at2, at3, at4, at5, at6, at7, at8, HO.tup.injEq, HO.lst.injEq, reduceCtorEq, false_or, or_false, tyF_non, tyF_bl, tyF_int, tyF_str, exists_const, Int.reduceAdd, Int.reduceMul, Int.reduceSub, gSub, rSetL, tSl, tPart, tNoPart, rSlH, upd_same, upd_upd, rIntB, rListH, tBM, tBM0, rAppend, rClear, tPar, gTupH]
    exact k D ys ps H2 nD g2 hD2 (by omega) hp
theorem bq_tr {a b c : Q3} (ha : PQ 60 a) (hb : PQ 60 b) (hc : PQ 60 c) (h1 : bq a b = true) (h2 : bq b c = true) : bq a c = true := bef_trans ha.pos hb.pos hc.pos h1 h2
theorem bq_no {a b c : Q3} (ha : PQ 60 a) (hb : PQ 60 b) (hc : PQ 60 c) (h1 : bq b c = true) (h2 : bq a c = false) : bq a b = false := by
  cases e : bq a b with
  | false => rfl
  | true => rw [bq_tr ha hb hc e h1] at h2; cases h2
theorem bq_no' {a b c : Q3} (ha : PQ 60 a) (hb : PQ 60 b) (hc : PQ 60 c) (h1 : bq a b = true) (h2 : bq a c = false) : bq b c = false := by
  cases e : bq b c with
  | false => rfl
  | true => rw [bq_tr ha hb hc h1 e] at h2; cases h2
theorem bq_irr (a : Q3) : bq a a = false := bef_irr _ _ _
def Outer (ps : List Q3) (lo hi : Q3) : Prop := lo ∈ ps ∧ (∀ r, r ∈ ps → bq r lo = false) ∧ hi ∈ ps ∧ ∀ r, r ∈ ps → bq hi r = false
def sp_outer : Sp := fun vs H Q _ => ∃ (l : Addr) (ys : List V) (ps : List Q3), vs = [.ref l] ∧ H l = some (.lst ys) ∧ 0 < ys.length ∧ LR QH H ys ps ∧
  ∀ D p q lo hi H', H D = none → Same H H' → H' D = some (.lst [.ref p, .ref q]) → QH H' p lo → QH H' q hi → Outer ps lo hi → Q (.ref D) H'
theorem ok_law_outermost (T : Txt K mg ad fd) : FnOk P w K mg base CX0 2 (ad 16) (fd 16) ["_law_spots"] sp_outer := by
  refine T.law_outermost.fn.ok sc_law_outermost (fun vs H Q E h => ?_) (fun cdv A outer s H vs Q E hr h => ?_)
  · obtain ⟨l, ys, ps, rfl, _⟩ := h
    rfl
  obtain ⟨l, ys, ps, rfl, hl, h0, hp, k⟩ := h
  have qpss4 := @pss4
  have qps_set := @ps_set
  have qpe_ix := @pe_ix
  have qpv := @pv
  have qpe_int := @pe_int
  have qps_for := @ps_for
  have qpi_list := @pi_list
  have qpg_name := @pg_name
  have qpss2 := @pss2
  have qps_if := @ps_if
  have qpt_val := @pt_val
  have qpe_call := @pe_call
  have qpa2 := @pa2
  have qpss_one := @pss_one
  have qpss_nil := @pss_nil
  have qps_ret := @ps_ret
  have qpe_lst := @pe_lst
  generalize @L2.PE = QE, @L2.PT = QT, @L2.PW = QW, @L2.PA = QA, @L2.PS = QS, @L2.PSs = QSs, @L2.PG = QG, @L2.PGs = QGs, @L2.PI = QI, @L2.PO = QO, @L2.PIf = QIf at qpss4 qps_set qpe_ix qpv qpe_int qps_for qpi_list qpg_name qpss2 qps_if qpt_val qpe_call qpa2 qpss_one qpss_nil qps_ret qpe_lst ⊢
  refine ⟨_,
    (qpss4
      (qps_set (i := 1) sc_law_outermost.nd rfl (Or.inl rfl) (qpe_ix ix_listH (qpv 0) qpe_int (fun _ _ => rfl)))
      (qps_set (i := 2) sc_law_outermost.nd rfl (Or.inl rfl) (qpe_ix ix_listH (qpv 0) qpe_int (fun _ _ => rfl)))
      (qps_for PassesOwn.never rfl (qpi_list (qpv 0)) (qpg_name (i := 3) sc_law_outermost.nd rfl (Or.inl rfl)) (qpss2
      (qps_if (qpt_val (qpe_call (ok_law_before T) (hr.mono (by decide)) rfl T.law_before.mg T.law_before.fn.kp T.law_before.bn .nil pass0 (qpa2 (qpv 3) ns_Name (qpv 1) ns_Name))) (qpss_one (qps_set (i := 1) sc_law_outermost.nd rfl (Or.inl rfl) (qpv 3))) qpss_nil)
      (qps_if (qpt_val (qpe_call (ok_law_before T) (hr.mono (by decide)) rfl T.law_before.mg T.law_before.fn.kp T.law_before.bn .nil pass0 (qpa2 (qpv 2) ns_Name (qpv 3) ns_Name))) (qpss_one (qps_set (i := 2) sc_law_outermost.nd rfl (Or.inl rfl) (qpv 3))) qpss_nil)))
      (qps_ret (qpe_lst (qpa2 (qpv 1) ns_Name (qpv 2) ns_Name))))
    , ?_⟩
  clear  qpss4 qps_set qpe_ix qpv qpe_int qps_for qpi_list qpg_name qpss2 qps_if qpt_val qpe_call qpa2 qpss_one qpss_nil qps_ret qpe_lst QE QT QW QA QS QSs QG QGs QI QO QIf
  obtain ⟨b0, r0, e0, f0, q0⟩ := hp.at (j := 0) h0
  have a0 : atI ys 0 = some (.ref b0) := atI_nat e0
  have m0 := List.mem_of_getElem? f0
  simp only [tSeq, tNext, tRet, tRetN, tIfS, tAsg, gName, tDrop, tVar, tC, tOp, tUn, rI, rI0, rU, rEq, rNe, tTest, tB, tNot, tAnd, tOr, tAndV, tOrV, tNotV, tIf, tCB, tCall, tNil, tCons, tTup, tLst, gTup, gCons, gNil, L2.start, rIsi, rIxT, rIxL, cx_K, tyN_non, tyN_bl, tyN_int, tyN_str, isi_ii, isi_ib, isi_it, isi_il, isi_bi, isi_bb, isi_tt, isi_ni, isi_si, isi_ti, isi_li, isi_di, isi_ll, scal_ii, scal_bb, sz0, sz1, sz2, sz3, sz4, List.map_cons, List.map_nil, List.length_cons, List.length_nil, List.replicate, List.cons_append, List.nil_append, List.append_nil, List.getElem?_cons_zero, List.getElem?_cons_succ, List.set_cons_zero, List.set_cons_succ, Option.some.injEq, V.int.injEq, V.bl.injEq, V.ref.injEq, V.ty.injEq, List.cons.injEq, and_true, true_and, exists_eq_left, exists_eq_left', exists_and_left, exists_and_right, exists_eq, exists_eq', and_assoc, Nat.reduceAdd, Nat.reduceSub, Bool.not_true, Bool.not_false, Bool.false_eq_true, if_true, if_false, reduceIte, Nat.zero_add, decide_true, decide_false, selC, comp_K, tYes, Option.join_some, rIxTH, rIxLH, rLenH, rIsiF, at0, at1, at2, at3, at4, at5, at6, at7, at8, HO.tup.injEq, HO.lst.injEq, reduceCtorEq, false_or, or_false, tyF_non, tyF_bl, tyF_int, tyF_str, exists_const, Int.reduceAdd, Int.reduceMul, Int.reduceSub, gSub, rSetL, tSl, tPart, tNoPart, rSlH, upd_same, upd_upd, rIntB, rListH, tBM, tBM0, rAppend, rClear, tPar, gTupH, hl, a0]
  refine tFor_mk ?_
  simp only [iList, tSeq, tNext, tRet, tRetN, tIfS, tAsg, gName, tDrop, tVar, tC, tOp, tUn, rI, rI0, rU, rEq, rNe, tTest, tB, tNot, tAnd, tOr, tAndV, tOrV, tNotV, tIf, tCB, tCall, tNil, tCons, tTup, tLst, gTup, gCons, gNil, L2.start, rIsi, rIxT, rIxL, cx_K, tyN_non, tyN_bl, tyN_int, tyN_str, isi_ii, isi_ib, isi_it, isi_il, isi_bi, isi_bb, isi_tt, isi_ni, isi_si, isi_ti, isi_li, isi_di, isi_ll, scal_ii, scal_bb, sz0, sz1, sz2, sz3, sz4, List.map_cons, List.map_nil, List.length_cons, List.length_nil, List.replicate, List.cons_append, List.nil_append, List.append_nil, List.getElem?_cons_zero, List.getElem?_cons_succ, List.set_cons_zero, List.set_cons_succ, Option.some.injEq, V.int.injEq, V.bl.injEq, V.ref.injEq, V.ty.injEq, List.cons.injEq, and_true, true_and, exists_eq_left, exists_eq_left', exists_and_left, exists_and_right, exists_eq, exists_eq', and_assoc, Nat.reduceAdd, Nat.reduceSub, Bool.not_true, Bool.not_false, Bool.false_eq_true, if_true, if_false, reduceIte, Nat.zero_add, decide_true, decide_false, selC, comp_K, tYes, Option.join_some, rIxTH, rIxLH, rLenH, rIsiF, at0, at1, at2, at3, at4, at5, at6, at7, at8, HO.tup.injEq, HO.lst.injEq, reduceCtorEq, false_or, or_false, tyF_non, tyF_bl, tyF_int, tyF_str, exists_const, Int.reduceAdd, Int.reduceMul, Int.reduceSub, gSub, rSetL, tSl, tPart, tNoPart, rSlH, upd_same, upd_upd, rIntB, rListH, tBM, tBM0, rAppend, rClear, tPar, gTupH]
  refine ⟨⟨_, .of hl⟩, ?_⟩
  refine for_list (K := K) (a := l) (xs := ys) (fun i σ H' => H' = H ∧ ∃ (p q : Addr) (lo hi : Q3) (o : Option V), σ = [some (.ref l), some (.ref p), some (.ref q), o] ∧ QH H p lo ∧ QH H q hi ∧ lo ∈ ps ∧ (∀ r, r ∈ ps.take i → bq r lo = false) ∧ hi ∈ ps ∧ ∀ r, r ∈ ps.take i → bq hi r = false) ⟨rfl, b0, b0, r0, r0, none, rfl, q0, q0, m0, fun r hr => (by rw [List.take_zero] at hr; cases hr), m0, fun r hr => (by rw [List.take_zero] at hr; cases hr)⟩ (fun i σ H' _ iv => .of (by rw [iv.1]; exact hl)) ?_ ?_
  · rintro i v σ H2 hi ⟨rfl, p, q, lo, hh, o, rfl, hlo, hhi, c1, c2, c3, c4⟩
    obtain ⟨b, r, rfl, hr', hq⟩ := hp.2 i v hi
    have mr := List.mem_of_getElem? hr'
    have pq : ∀ {z}, z ∈ ps → PQ 60 z := fun h => mem_pq hp h
    have mt : ∀ {z}, z ∈ ps.take i → z ∈ ps := fun h => List.mem_of_mem_take h
    rw [List.take_add_one, hr']
    have ext : ∀ {P' : Q3 → Prop}, (∀ z, z ∈ ps.take i → P' z) → P' r → ∀ z, z ∈ ps.take i ++ (some r).toList → P' z := fun h1 h2 z hz => (List.mem_append.mp hz).elim (h1 z) fun h => by
      have e : z = r := by simpa using h
      rw [e]; exact h2
    simp only [tSeq, tNext, tRet, tRetN, tIfS, tAsg, gName, tDrop, tVar, tC, tOp, tUn, rI, rI0, rU, rEq, rNe, tTest, tB, tNot, tAnd, tOr, tAndV, tOrV, tNotV, tIf, tCB, tCall, tNil, tCons, tTup, tLst, gTup, gCons, gNil, L2.start, rIsi, rIxT, rIxL, cx_K, tyN_non, tyN_bl, tyN_int, tyN_str, isi_ii, isi_ib, isi_it, isi_il, isi_bi, isi_bb, isi_tt, isi_ni, isi_si, isi_ti, isi_li, isi_di, isi_ll, scal_ii, scal_bb, sz0, sz1, sz2, sz3, sz4, List.map_cons, List.map_nil, List.length_cons, List.length_nil, List.replicate, List.cons_append, List.nil_append, List.append_nil, List.getElem?_cons_zero, List.getElem?_cons_succ, List.set_cons_zero, List.set_cons_succ, Option.some.injEq, V.int.injEq, V.bl.injEq, V.ref.injEq, V.ty.injEq, List.cons.injEq, and_true, true_and, exists_eq_left, exists_eq_left', exists_and_left, exists_and_right, exists_eq, exists_eq', and_assoc, Nat.reduceAdd, Nat.reduceSub, Bool.not_true, Bool.not_false, Bool.false_eq_true, if_true, if_false, reduceIte, Nat.zero_add, decide_true, decide_false, selC, comp_K, tYes, Option.join_some, rIxTH, rIxLH, rLenH, rIsiF, at0, at1, at2, at3, at4, at5, at6, at7, at8, HO.tup.injEq, HO.lst.injEq, reduceCtorEq, false_or, or_false, tyF_non, tyF_bl, tyF_int, tyF_str, exists_const, Int.reduceAdd, Int.reduceMul, Int.reduceSub, gSub, rSetL, tSl, tPart, tNoPart, rSlH, upd_same, upd_upd, rIntB, rListH, tBM, tBM0, rAppend, rClear, tPar, gTupH]
    refine ⟨b, p, _, _, _, _, _, _, rfl, hq.tb, hlo.tb, _, rfl, ite2 (fun d1 => ?_) (fun d1 => ?_)⟩
    · have d1 : bq r lo = true := d1
      have k1 := ext (P' := fun z => bq z r = false) (fun z hz => bq_no (pq (mt hz)) hq.2 hlo.2 d1 (c2 z hz)) (bq_irr r)
      refine ⟨q, b, _, _, _, _, _, _, rfl, hhi.tb, hq.tb, _, rfl, ite2 (fun d2 => ?_) (fun d2 => ?_)⟩
      · have d2 : bq hh r = true := d2
        exact ⟨rfl, r, hq, r, hq, mr, k1, mr, ext (P' := fun z => bq r z = false) (fun z hz => bq_no' hhi.2 hq.2 (pq (mt hz)) d2 (c4 z hz)) (bq_irr r)⟩
      · have d2 : bq hh r = false := (Bool.not_eq_true _).mp d2
        exact ⟨rfl, r, hq, hh, hhi, mr, k1, c3, ext (P' := fun z => bq hh z = false) c4 d2⟩
    · have d1 : bq r lo = false := (Bool.not_eq_true _).mp d1
      have k1 := ext (P' := fun z => bq z lo = false) c2 d1
      refine ⟨q, b, _, _, _, _, _, _, rfl, hhi.tb, hq.tb, _, rfl, ite2 (fun d2 => ?_) (fun d2 => ?_)⟩
      · have d2 : bq hh r = true := d2
        exact ⟨rfl, lo, hlo, r, hq, c1, k1, mr, ext (P' := fun z => bq r z = false) (fun z hz => bq_no' hhi.2 hq.2 (pq (mt hz)) d2 (c4 z hz)) (bq_irr r)⟩
      · have d2 : bq hh r = false := (Bool.not_eq_true _).mp d2
        exact ⟨rfl, lo, hlo, hh, hhi, c1, k1, c3, ext (P' := fun z => bq hh z = false) c4 d2⟩
  · rintro σ H2 ⟨rfl, p, q, lo, hh, o, rfl, hlo, hhi, c1, c2, c3, c4⟩
    rw [List.take_of_length_le (by rw [hp.1]; exact Nat.le_refl _)] at c2 c4
    simp only [tSeq, tNext, tRet, tRetN, tIfS, tAsg, gName, tDrop, tVar, tC, tOp, tUn, rI, rI0, rU, rEq, rNe, tTest, tB, tNot, tAnd, tOr, tAndV, tOrV, tNotV, tIf, tCB, tCall, tNil, tCons, tTup, tLst, gTup, gCons, gNil, L2.start, rIsi, rIxT, rIxL, cx_K, tyN_non, tyN_bl, tyN_int, tyN_str, isi_ii, isi_ib, isi_it, isi_il, isi_bi, isi_bb, isi_tt, isi_ni, isi_si, isi_ti, isi_li, isi_di, isi_ll, scal_ii, scal_bb, sz0, sz1, sz2, sz3, sz4, List.map_cons, List.map_nil, List.length_cons, List.length_nil, List.replicate, List.cons_append, List.nil_append, List.append_nil, List.getElem?_cons_zero, List.getElem?_cons_succ, List.set_cons_zero, List.set_cons_succ, Option.some.injEq, V.int.injEq, V.bl.injEq, V.ref.injEq, V.ty.injEq, List.cons.injEq, and_true, true_and, exists_eq_left, exists_eq_left', exists_and_left, exists_and_right, exists_eq, exists_eq', and_assoc, Nat.reduceAdd, Nat.reduceSub, Bool.not_true, Bool.not_false, Bool.false_eq_true, if_true, if_false, reduceIte, Nat.zero_add, decide_true, decide_false, selC, comp_K, tYes, Option.join_some, rIxTH, rIxLH, rLenH, rIsiF, at0, at1, at2, at3, at4, at5, at6, at7, at8, HO.tup.injEq, HO.lst.injEq, reduceCtorEq, false_or, or_false, tyF_non, tyF_bl, tyF_int, tyF_str, exists_const, Int.reduceAdd, Int.reduceMul, Int.reduceSub, gSub, rSetL, tSl, tPart, tNoPart, rSlH, upd_same, upd_upd, rIntB, rListH, tBM, tBM0, rAppend, rClear, tPar, gTupH]
    intro D hD
    have g := same_new hD (HO.lst [V.ref p, V.ref q])
    exact k D p q lo hh _ hD g upd_same (hlo.same g) (hhi.same g) ⟨c1, c2, c3, c4⟩
theorem at_prev {zs : List V} {i : Nat} (h : i < zs.length) : atI zs ((i : Int) - 1) = zs[(i + zs.length - 1) % zs.length]? := by
  cases i with
  | zero =>
    rw [Nat.zero_add, Nat.mod_eq_of_lt (by omega)]
    have e : zs ≠ [] := fun z => by rw [z] at h; cases h
    have := atI_last zs.dropLast (zs.getLast e)
    rw [List.dropLast_concat_getLast e] at this
    show atI zs (-1) = _
    rw [this, ← List.getLast?_eq_getElem?, List.getLast?_eq_some_getLast e]
  | succ n =>
    have e : (((n + 1 : Nat) : Int) - 1) = ((n : Nat) : Int) := by omega
    rw [e, show n + 1 + zs.length - 1 = n + zs.length by omega, Nat.add_mod_right, Nat.mod_eq_of_lt (by omega)]
    have hn : n < zs.length := by omega
    rw [List.getElem?_eq_getElem hn]
    exact atI_nat (List.getElem?_eq_getElem hn)
theorem at_next {zs : List V} {i : Nat} (h : i < zs.length) : atI zs (((i : Int) + 1).fmod (zs.length : Int)) = zs[(i + 1) % zs.length]? := by
  have e : ((i : Int) + 1).fmod (zs.length : Int) = (((i + 1) % zs.length : Nat) : Int) := by
    rw [Int.fmod_eq_emod_of_nonneg _ (by omega)]
    exact (Int.natCast_emod (i + 1) zs.length).symm
  have hn : (i + 1) % zs.length < zs.length := Nat.mod_lt _ (by omega)
  rw [e, List.getElem?_eq_getElem hn]
  exact atI_nat (List.getElem?_eq_getElem hn)
def sp_round : Sp := fun vs H Q _ => ∃ (l m : Addr) (zs ys : List V) (F ps : List Q3), vs = [.ref l, .ref m] ∧ H l = some (.lst zs) ∧ H m = some (.lst ys) ∧ LR QH H zs F ∧ LR QH H ys ps ∧ 2 < F.length ∧ F.length ≤ 100 ∧ Ring ps F ∧ Q (.bl true) H
theorem ok_law_round (T : Txt K mg ad fd) : FnOk P w K mg base CX0 2 (ad 17) (fd 17) ["_law_found", "_law_spots"] sp_round := by
  refine T.law_round.fn.ok sc_law_round (fun vs H Q E h => ?_) (fun cdv A outer s H vs Q E hr h => ?_)
  · obtain ⟨l, m, zs, ys, F, ps, rfl, _⟩ := h
    rfl
  obtain ⟨l, m, zs, ys, F, ps, rfl, hl, hm, hz, hy, f2, f100, ring, k⟩ := h
  have qpss2 := @pss2
  have qps_for := @ps_for
  have qpi_range1 := @pi_range1
  have qpa1 := @pa1
  have qpe_callB := @pe_callB
  have qpv := @pv
  have qpg_name := @pg_name
  have qpss4 := @pss4
  have qps_set := @ps_set
  have qpe_ix := @pe_ix
  have qpe_op := @pe_op
  have qpe_int := @pe_int
  have qps_if := @ps_if
  have qpt_cmpR := @pt_cmpR
  have qpe_call := @pe_call
  have qpa3 := @pa3
  have qpss_one := @pss_one
  have qps_ret := @ps_ret
  have qpe_bl := @pe_bl
  have qpss_nil := @pss_nil
  have qpi_list := @pi_list
  have qpe_un := @pe_un
  generalize @L2.PE = QE, @L2.PT = QT, @L2.PW = QW, @L2.PA = QA, @L2.PS = QS, @L2.PSs = QSs, @L2.PG = QG, @L2.PGs = QGs, @L2.PI = QI, @L2.PO = QO, @L2.PIf = QIf at qpss2 qps_for qpi_range1 qpa1 qpe_callB qpv qpg_name qpss4 qps_set qpe_ix qpe_op qpe_int qps_if qpt_cmpR qpe_call qpa3 qpss_one qps_ret qpe_bl qpss_nil qpi_list qpe_un ⊢
  refine ⟨_,
    (qpss2
      (qps_for PassesOwn.never rfl (qpi_range1 rfl T.b_range (qpa1 (qpe_callB call_lenH rfl T.b_len bt_len (qpa1 (qpv 0) ns_Name)) ns_Call)) (qpg_name (i := 2) sc_law_round.nd rfl (Or.inl rfl)) (qpss4
      (qps_set (i := 3) sc_law_round.nd rfl (Or.inl rfl) (qpe_ix ix_listH (qpv 0) (qpe_op op_sub (qpv 2) qpe_int) (fun _ _ => rfl)))
      (qps_set (i := 4) sc_law_round.nd rfl (Or.inl rfl) (qpe_ix ix_listH (qpv 0) (qpv 2) (fun _ _ => rfl)))
      (qps_if (qpt_cmpR op_ne (qpe_call (ok_law_turn T) (hr.mono (by decide)) rfl T.law_turn.mg T.law_turn.fn.kp T.law_turn.bn .nil pass0 (qpa3 (qpv 3) ns_Name (qpv 4) ns_Name (qpe_ix ix_listH (qpv 0) (qpe_op op_modN (qpe_op op_add (qpv 2) qpe_int) (qpe_callB call_lenH rfl T.b_len bt_len (qpa1 (qpv 0) ns_Name))) (fun _ _ => rfl)) ns_Subscript)) qpe_int (nomark _)) (qpss_one (qps_ret qpe_bl)) qpss_nil)
      (qps_for PassesOwn.never rfl (qpi_list (qpv 1)) (qpg_name (i := 5) sc_law_round.nd rfl (Or.inl rfl)) (qpss_one (qps_if (qpt_cmpR op_eq (qpe_call (ok_law_turn T) (hr.mono (by decide)) rfl T.law_turn.mg T.law_turn.fn.kp T.law_turn.bn .nil pass0 (qpa3 (qpv 3) ns_Name (qpv 4) ns_Name (qpv 5) ns_Name)) (qpe_un un_neg qpe_int) (nomark _)) (qpss_one (qps_ret qpe_bl)) qpss_nil)))))
      (qps_ret qpe_bl))
    , ?_⟩
  clear  qpss2 qps_for qpi_range1 qpa1 qpe_callB qpv qpg_name qpss4 qps_set qpe_ix qpe_op qpe_int qps_if qpt_cmpR qpe_call qpa3 qpss_one qps_ret qpe_bl qpss_nil qpi_list qpe_un QE QT QW QA QS QSs QG QGs QI QO QIf
  have lz : zs.length = F.length := hz.1
  simp only [tSeq, tNext, tRet, tRetN, tIfS, tAsg, gName, tDrop, tVar, tC, tOp, tUn, rI, rI0, rU, rEq, rNe, tTest, tB, tNot, tAnd, tOr, tAndV, tOrV, tNotV, tIf, tCB, tCall, tNil, tCons, tTup, tLst, gTup, gCons, gNil, L2.start, rIsi, rIxT, rIxL, cx_K, tyN_non, tyN_bl, tyN_int, tyN_str, isi_ii, isi_ib, isi_it, isi_il, isi_bi, isi_bb, isi_tt, isi_ni, isi_si, isi_ti, isi_li, isi_di, isi_ll, scal_ii, scal_bb, sz0, sz1, sz2, sz3, sz4, List.map_cons, List.map_nil, List.length_cons, List.length_nil, List.replicate, List.cons_append, List.nil_append, List.append_nil, List.getElem?_cons_zero, List.getElem?_cons_succ, List.set_cons_zero, List.set_cons_succ, Option.some.injEq, V.int.injEq, V.bl.injEq, V.ref.injEq, V.ty.injEq, List.cons.injEq, and_true, true_and, exists_eq_left, exists_eq_left', exists_and_left, exists_and_right, exists_eq, exists_eq', and_assoc, Nat.reduceAdd, Nat.reduceSub, Bool.not_true, Bool.not_false, Bool.false_eq_true, if_true, if_false, reduceIte, Nat.zero_add, decide_true, decide_false, selC, comp_K, tYes, Option.join_some, rIxTH, rIxLH, rLenH, rIsiF, at0, at1, at2, at3, at4, at5, at6, at7, at8, HO.tup.injEq, HO.lst.injEq, reduceCtorEq, false_or, or_false, tyF_non, tyF_bl, tyF_int, tyF_str, exists_const, Int.reduceAdd, Int.reduceMul, Int.reduceSub, gSub, rSetL, tSl, tPart, tNoPart, rSlH, upd_same, upd_upd, rIntB, rListH, tBM, tBM0, rAppend, rClear, tPar, gTupH]
  refine tFor_mk ?_
  simp only [iRng1, tSeq, tNext, tRet, tRetN, tIfS, tAsg, gName, tDrop, tVar, tC, tOp, tUn, rI, rI0, rU, rEq, rNe, tTest, tB, tNot, tAnd, tOr, tAndV, tOrV, tNotV, tIf, tCB, tCall, tNil, tCons, tTup, tLst, gTup, gCons, gNil, L2.start, rIsi, rIxT, rIxL, cx_K, tyN_non, tyN_bl, tyN_int, tyN_str, isi_ii, isi_ib, isi_it, isi_il, isi_bi, isi_bb, isi_tt, isi_ni, isi_si, isi_ti, isi_li, isi_di, isi_ll, scal_ii, scal_bb, sz0, sz1, sz2, sz3, sz4, List.map_cons, List.map_nil, List.length_cons, List.length_nil, List.replicate, List.cons_append, List.nil_append, List.append_nil, List.getElem?_cons_zero, List.getElem?_cons_succ, List.set_cons_zero, List.set_cons_succ, Option.some.injEq, V.int.injEq, V.bl.injEq, V.ref.injEq, V.ty.injEq, List.cons.injEq, and_true, true_and, exists_eq_left, exists_eq_left', exists_and_left, exists_and_right, exists_eq, exists_eq', and_assoc, Nat.reduceAdd, Nat.reduceSub, Bool.not_true, Bool.not_false, Bool.false_eq_true, if_true, if_false, reduceIte, Nat.zero_add, decide_true, decide_false, selC, comp_K, tYes, Option.join_some, rIxTH, rIxLH, rLenH, rIsiF, at0, at1, at2, at3, at4, at5, at6, at7, at8, HO.tup.injEq, HO.lst.injEq, reduceCtorEq, false_or, or_false, tyF_non, tyF_bl, tyF_int, tyF_str, exists_const, Int.reduceAdd, Int.reduceMul, Int.reduceSub, gSub, rSetL, tSl, tPart, tNoPart, rSlH, upd_same, upd_upd, rIntB, rListH, tBM, tBM0, rAppend, rClear, tPar, gTupH, hl]
  refine ⟨by omega, by omega, for_range (fun i σ H' => H' = H ∧ ∃ o1 o2 o3 o4 : Option V, σ = [some (.ref l), some (.ref m), o1, o2, o3, o4]) ⟨rfl, none, none, none, none, rfl⟩ ?_ ?_⟩
  · rintro i σ H2 hi ⟨rfl, o1, o2, o3, o4, rfl⟩
    have hi' : i < zs.length := by omega
    have l1 : (i + zs.length - 1) % zs.length < zs.length := Nat.mod_lt _ (by omega)
    have l3 : (i + 1) % zs.length < zs.length := Nat.mod_lt _ (by omega)
    obtain ⟨a, qa, ea, fa, ha⟩ := hz.at l1
    obtain ⟨b, qb, eb, fb, hb⟩ := hz.at hi'
    obtain ⟨c, qc, ec, fc, hc⟩ := hz.at l3
    have Ea := (at_prev hi').trans ea
    have Eb : atI zs (i : Int) = some (.ref b) := atI_nat eb
    have Ec := (at_next hi').trans ec
    rw [lz] at fa fc
    have tr := ring.tri i qa qb qc (by omega) fa fb fc
    have ed := ring.edge i qa qb (by omega) fa fb
    simp only [tSeq, tNext, tRet, tRetN, tIfS, tAsg, gName, tDrop, tVar, tC, tOp, tUn, rI, rI0, rU, rEq, rNe, tTest, tB, tNot, tAnd, tOr, tAndV, tOrV, tNotV, tIf, tCB, tCall, tNil, tCons, tTup, tLst, gTup, gCons, gNil, L2.start, rIsi, rIxT, rIxL, cx_K, tyN_non, tyN_bl, tyN_int, tyN_str, isi_ii, isi_ib, isi_it, isi_il, isi_bi, isi_bb, isi_tt, isi_ni, isi_si, isi_ti, isi_li, isi_di, isi_ll, scal_ii, scal_bb, sz0, sz1, sz2, sz3, sz4, List.map_cons, List.map_nil, List.length_cons, List.length_nil, List.replicate, List.cons_append, List.nil_append, List.append_nil, List.getElem?_cons_zero, List.getElem?_cons_succ, List.set_cons_zero, List.set_cons_succ, Option.some.injEq, V.int.injEq, V.bl.injEq, V.ref.injEq, V.ty.injEq, List.cons.injEq, and_true, true_and, exists_eq_left, exists_eq_left', exists_and_left, exists_and_right, exists_eq, exists_eq', and_assoc, Nat.reduceAdd, Nat.reduceSub, Bool.not_true, Bool.not_false, Bool.false_eq_true, if_true, if_false, reduceIte, Nat.zero_add, decide_true, decide_false, selC, comp_K, tYes, Option.join_some, rIxTH, rIxLH, rLenH, rIsiF, at0, at1, at2, at3, at4, at5, at6, at7, at8, HO.tup.injEq, HO.lst.injEq, reduceCtorEq, false_or, or_false, tyF_non, tyF_bl, tyF_int, tyF_str, exists_const, Int.reduceAdd, Int.reduceMul, Int.reduceSub, gSub, rSetL, tSl, tPart, tNoPart, rSlH, upd_same, upd_upd, rIntB, rListH, tBM, tBM0, rAppend, rClear, tPar, gTupH, Int.zero_add, hl, Ea, Eb, Ec]
    refine ⟨by omega, a, b, c, _, _, _, _, _, _, _, _, _, rfl, ha.tb, hb.tb, hc.tb, scal_ii, ite2 (fun d => ?_) (fun _ => ?_)⟩
    · exfalso
      have : sgn (dt qa qb qc) = 1 := sgn_pos tr
      have d' : ¬ sgn (dt qa qb qc) = 1 := by simpa [dt] using d
      exact d' this
    · refine tFor_mk ?_
      simp only [iList, tSeq, tNext, tRet, tRetN, tIfS, tAsg, gName, tDrop, tVar, tC, tOp, tUn, rI, rI0, rU, rEq, rNe, tTest, tB, tNot, tAnd, tOr, tAndV, tOrV, tNotV, tIf, tCB, tCall, tNil, tCons, tTup, tLst, gTup, gCons, gNil, L2.start, rIsi, rIxT, rIxL, cx_K, tyN_non, tyN_bl, tyN_int, tyN_str, isi_ii, isi_ib, isi_it, isi_il, isi_bi, isi_bb, isi_tt, isi_ni, isi_si, isi_ti, isi_li, isi_di, isi_ll, scal_ii, scal_bb, sz0, sz1, sz2, sz3, sz4, List.map_cons, List.map_nil, List.length_cons, List.length_nil, List.replicate, List.cons_append, List.nil_append, List.append_nil, List.getElem?_cons_zero, List.getElem?_cons_succ, List.set_cons_zero, List.set_cons_succ, Option.some.injEq, V.int.injEq, V.bl.injEq, V.ref.injEq, V.ty.injEq, List.cons.injEq, and_true, true_and, exists_eq_left, exists_eq_left', exists_and_left, exists_and_right, exists_eq, exists_eq', and_assoc, Nat.reduceAdd, Nat.reduceSub, Bool.not_true, Bool.not_false, Bool.false_eq_true, if_true, if_false, reduceIte, Nat.zero_add, decide_true, decide_false, selC, comp_K, tYes, Option.join_some, rIxTH, rIxLH, rLenH, rIsiF, at0, at1, at2, at3, at4, at5, at6, at7, at8, HO.tup.injEq, HO.lst.injEq, reduceCtorEq, false_or, or_false, tyF_non, tyF_bl, tyF_int, tyF_str, exists_const, Int.reduceAdd, Int.reduceMul, Int.reduceSub, gSub, rSetL, tSl, tPart, tNoPart, rSlH, upd_same, upd_upd, rIntB, rListH, tBM, tBM0, rAppend, rClear, tPar, gTupH]
      refine ⟨⟨_, .of hm⟩, ?_⟩
      refine forW_list (K := K) (a := m) (xs := ys) (fun j σ H' => H' = H2 ∧ ∃ o : Option V, σ = [some (.ref l), some (.ref m), some (.int i), some (.ref a), some (.ref b), o]) ⟨rfl, _, rfl⟩ (fun j σ H' _ iv => .of (by rw [iv.1]; exact hm)) ?_ ?_
      · rintro j v σ H3 hj ⟨rfl, o, rfl⟩
        obtain ⟨q, r, rfl, hr', hq⟩ := hy.2 j v hj
        simp only [tSeq, tNext, tRet, tRetN, tIfS, tAsg, gName, tDrop, tVar, tC, tOp, tUn, rI, rI0, rU, rEq, rNe, tTest, tB, tNot, tAnd, tOr, tAndV, tOrV, tNotV, tIf, tCB, tCall, tNil, tCons, tTup, tLst, gTup, gCons, gNil, L2.start, rIsi, rIxT, rIxL, cx_K, tyN_non, tyN_bl, tyN_int, tyN_str, isi_ii, isi_ib, isi_it, isi_il, isi_bi, isi_bb, isi_tt, isi_ni, isi_si, isi_ti, isi_li, isi_di, isi_ll, scal_ii, scal_bb, sz0, sz1, sz2, sz3, sz4, List.map_cons, List.map_nil, List.length_cons, List.length_nil, List.replicate, List.cons_append, List.nil_append, List.append_nil, List.getElem?_cons_zero, List.getElem?_cons_succ, List.set_cons_zero, List.set_cons_succ, Option.some.injEq, V.int.injEq, V.bl.injEq, V.ref.injEq, V.ty.injEq, List.cons.injEq, and_true, true_and, exists_eq_left, exists_eq_left', exists_and_left, exists_and_right, exists_eq, exists_eq', and_assoc, Nat.reduceAdd, Nat.reduceSub, Bool.not_true, Bool.not_false, Bool.false_eq_true, if_true, if_false, reduceIte, Nat.zero_add, decide_true, decide_false, selC, comp_K, tYes, Option.join_some, rIxTH, rIxLH, rLenH, rIsiF, at0, at1, at2, at3, at4, at5, at6, at7, at8, HO.tup.injEq, HO.lst.injEq, reduceCtorEq, false_or, or_false, tyF_non, tyF_bl, tyF_int, tyF_str, exists_const, Int.reduceAdd, Int.reduceMul, Int.reduceSub, gSub, rSetL, tSl, tPart, tNoPart, rSlH, upd_same, upd_upd, rIntB, rListH, tBM, tBM0, rAppend, rClear, tPar, gTupH]
        refine ⟨a, b, q, _, _, _, _, _, _, _, _, _, rfl, ha.tb, hb.tb, hq.tb, scal_ii, ite2 (fun d => ?_) (fun _ => ?_)⟩
        · exfalso
          have h0 := ed r (List.mem_of_getElem? hr')
          have d' : sgn (dt qa qb r) = -1 := by simpa [dt] using d
          rcases sgn_cases (dt qa qb r) with ⟨h, e⟩ | ⟨h, e⟩ | ⟨h, e⟩ <;> rw [e] at d' <;> omega
        · rfl
      · rintro σ H3 ⟨rfl, o, rfl⟩
        exact ⟨rfl, _, _, _, _, rfl⟩
  · rintro σ H2 ⟨rfl, o1, o2, o3, o4, rfl⟩
    simp only [tSeq, tNext, tRet, tRetN, tIfS, tAsg, gName, tDrop, tVar, tC, tOp, tUn, rI, rI0, rU, rEq, rNe, tTest, tB, tNot, tAnd, tOr, tAndV, tOrV, tNotV, tIf, tCB, tCall, tNil, tCons, tTup, tLst, gTup, gCons, gNil, L2.start, rIsi, rIxT, rIxL, cx_K, tyN_non, tyN_bl, tyN_int, tyN_str, isi_ii, isi_ib, isi_it, isi_il, isi_bi, isi_bb, isi_tt, isi_ni, isi_si, isi_ti, isi_li, isi_di, isi_ll, scal_ii, scal_bb, sz0, sz1, sz2, sz3, sz4, List.map_cons, List.map_nil, List.length_cons, List.length_nil, List.replicate, List.cons_append, List.nil_append, List.append_nil, List.getElem?_cons_zero, List.getElem?_cons_succ, List.set_cons_zero, List.set_cons_succ, Option.some.injEq, V.int.injEq, V.bl.injEq, V.ref.injEq, V.ty.injEq, List.cons.injEq, and_true, true_and, exists_eq_left, exists_eq_left', exists_and_left, exists_and_right, exists_eq, exists_eq', and_assoc, Nat.reduceAdd, Nat.reduceSub, Bool.not_true, Bool.not_false, Bool.false_eq_true, if_true, if_false, reduceIte, Nat.zero_add, decide_true, decide_false, selC, comp_K, tYes, Option.join_some, rIxTH, rIxLH, rLenH, rIsiF, at0, at1, at2, at3, at4, at5, at6, at7, at8, HO.tup.injEq, HO.lst.injEq, reduceCtorEq, false_or, or_false, tyF_non, tyF_bl, tyF_int, tyF_str, exists_const, Int.reduceAdd, Int.reduceMul, Int.reduceSub, gSub, rSetL, tSl, tPart, tNoPart, rSlH, upd_same, upd_upd, rIntB, rListH, tBM, tBM0, rAppend, rClear, tPar, gTupH]
    exact k
def dQ (r : Q3) : PyData := .tuple [.int r.x, .int r.y, .int r.w]
theorem rd_q {K : PySem.W.Frag} {H : Hp} {p : Addr} {r : Q3} (h : QH H p r) : RdD K H (dQ r) (.ref p) := by
  unfold dQ
  rw [RdD]
  refine ⟨p, _, rfl, .of h.1, ?_⟩
  rw [RdDs]
  refine ⟨_, _, rfl, by rw [RdD], ?_⟩
  rw [RdDs]
  refine ⟨_, _, rfl, by rw [RdD], ?_⟩
  rw [RdDs]
  refine ⟨_, _, rfl, by rw [RdD], ?_⟩
  rw [RdDs]
theorem rd_qs {K : PySem.W.Frag} {H : Hp} : ∀ {zs : List V} {F : List Q3}, LR QH H zs F → RdDs K H (F.map dQ) zs
  | [], [], _ => by rw [List.map_nil, RdDs]
  | [], _ :: _, h => by cases h.1
  | v :: zs, F, h => by
    obtain ⟨a, as, rfl, ⟨p, rfl, hp⟩, t⟩ := h.cons_inv
    rw [List.map_cons, RdDs]
    exact ⟨_, _, rfl, rd_q hp, rd_qs t⟩
theorem rd_ql {K : PySem.W.Frag} {H : Hp} {l : Addr} {zs : List V} {F : List Q3} (h : H l = some (.lst zs)) (hz : LR QH H zs F) : RdD K H (.list (F.map dQ)) (.ref l) := by
  rw [RdD]
  exact ⟨l, _, rfl, .of h, rd_qs hz⟩
theorem dQ_lay (r : Q3) : (dQ r).canLay0 = true ∧ (dQ r).depth ≤ 3 := by
  simp [dQ, PyData.canLay0, PyData.canLayAll0, PyData.depth, PyData.depthAll]
theorem dQs_lay (F : List Q3) : PyData.canLayAll0 (F.map dQ) = true ∧ PyData.depthAll (F.map dQ) ≤ 3 := by
  induction F with
  | nil => exact ⟨rfl, by simp [PyData.depthAll]⟩
  | cons r F ih =>
    have h := dQ_lay r
    rw [List.map_cons]
    constructor
    · rw [PyData.canLayAll0, h.1, ih.1]; rfl
    · rw [PyData.depthAll]
      have := h.2
      have := ih.2
      omega
theorem dQ_shaped (r : Q3) : SeqAt.shaped (dQ r) = true := by
  simp [dQ, SeqAt.shaped, PyData.canLay0, PyData.canLayAll0, PyData.depth, PyData.depthAll]
theorem dQs_shaped (F : List Q3) : SeqAt.shaped (.list (F.map dQ)) = true := by
  have h := dQs_lay F
  unfold SeqAt.shaped
  simp [PyData.canLay0, PyData.depth, h.1]
  have := h.2
  omega
theorem dQ_eqv (a b : Q3) : PyData.eqv (dQ a) (dQ b) = decide (a = b) := by
  rw [Bool.eq_iff_iff]
  obtain ⟨x, y, w⟩ := a
  obtain ⟨x', y', w'⟩ := b
  simp [dQ, PyData.eqv, PyData.eqvAll]
theorem dQs_eqvAll : ∀ F G : List Q3, PyData.eqvAll (F.map dQ) (G.map dQ) = decide (F = G)
  | [], [] => by simp [PyData.eqvAll]
  | [], _ :: _ => by simp [PyData.eqvAll]
  | _ :: _, [] => by simp [PyData.eqvAll]
  | a :: F, b :: G => by
    rw [List.map_cons, List.map_cons, PyData.eqvAll, dQ_eqv, dQs_eqvAll F G]
    rw [Bool.eq_iff_iff]
    simp
theorem dQs_eqv (F G : List Q3) : PyData.eqv (.list (F.map dQ)) (.list (G.map dQ)) = decide (F = G) := by
  rw [PyData.eqv, dQs_eqvAll]
theorem dQs_any (ps : List Q3) (r : Q3) : (ps.map dQ).any (fun e => PyData.eqv e (dQ r)) = decide (r ∈ ps) := by
  rw [Bool.eq_iff_iff, List.any_map]
  simp [dQ_eqv]
theorem ord_nil {ps : List Q3} {os : List Q3} (oo : OrdOf os ps) (h : ps = []) : os = [] := by
  cases os with
  | nil => rfl
  | cons a os =>
    have := (oo.2.1 a).mp (by simp)
    rw [h] at this
    cases this
theorem ord_ends {ps os : List Q3} {lo hi : Q3} (pq : ∀ p, p ∈ ps → PQ 60 p) (oo : OrdOf os ps) (ou : Outer ps lo hi) : os.head? = some lo ∧ os.getLast? = some hi := by
  obtain ⟨pw, mm, _⟩ := oo
  obtain ⟨o1, o2, o3, o4⟩ := ou
  have ne : os ≠ [] := fun z => by
    have := (mm lo).mpr o1
    rw [z] at this
    cases this
  constructor
  · cases e : os.head? with
    | none => exact absurd (List.head?_eq_none_iff.mp e) ne
    | some f =>
      rcases pw_first pw e lo ((mm lo).mpr o1) with h | h
      · rw [h]
      · have := o2 f ((mm f).mp (List.mem_of_head? e))
        rw [bq_lt.mpr h] at this
        cases this
  · cases e : os.getLast? with
    | none => exact absurd (List.getLast?_eq_none_iff.mp e) ne
    | some f =>
      rcases pw_last pw e hi ((mm hi).mpr o3) with h | h
      · rw [h]
      · have := o4 f ((mm f).mp (List.mem_of_getLast? e))
        rw [bq_lt.mpr h] at this
        cases this
theorem ord_one {os : List Q3} {f : Q3} (pw : os.Pairwise (Lt 1)) (h1 : os.head? = some f) (h2 : os.getLast? = some f) : hullF os = [f] := by
  match os, pw, h1, h2 with
  | [a], _, h1, _ => cases h1; rfl
  | a :: b :: r, pw, h1, h2 =>
    cases h1
    have hm : f ∈ b :: r := by
      rw [List.getLast?_cons_cons] at h2
      exact List.mem_of_getLast? h2
    exact (lt_irr ((List.pairwise_cons.mp pw).1 f hm)).elim
theorem nodup_le : ∀ (F os : List Q3), F.Nodup → (∀ q, q ∈ F → q ∈ os) → F.length ≤ os.length
  | [], _, _, _ => Nat.zero_le _
  | a :: F, os, nd, h => by
    obtain ⟨n1, n2⟩ := List.nodup_cons.mp nd
    have ha := h a (by simp)
    have := nodup_le F (os.erase a) n2 fun q hq => (List.mem_erase_of_ne fun (e : q = a) => n1 (e ▸ hq)).mpr (h q (List.mem_cons_of_mem _ hq))
    rw [List.length_erase_of_mem ha] at this
    have : 0 < os.length := List.length_pos_of_mem ha
    simp only [List.length_cons]
    omega
def sp_right : Sp := fun vs H Q _ => ∃ (l m : Addr) (zs ys : List V) (os ps : List Q3), vs = [.ref l, .ref m] ∧ H l = some (.lst zs) ∧ H m = some (.lst ys) ∧ LR QH H zs (hullF os) ∧ LR QH H ys ps ∧ OrdOf os ps ∧ ps.length ≤ 24 ∧ ∀ H', Same H H' → Q (.bl true) H'
theorem ok_law_right (T : Txt K mg ad fd) : FnOk P w K mg base CX0 3 (ad 18) (fd 18) ["_law_found", "_law_spots"] sp_right := by
  refine T.law_right.fn.ok sc_law_right (fun vs H Q E h => ?_) (fun cdv A outer s H vs Q E hr h => ?_)
  · obtain ⟨l, m, zs, ys, os, ps, rfl, _⟩ := h
    rfl
  obtain ⟨l, m, zs, ys, os, ps, rfl, hl, hm, hz, hy, oo, l24, k⟩ := h
  have pw := oo.1
  have nil_rd : ∀ {H' : Hp} {q : Addr}, H' q = some (.lst []) → RdD K H' (.list (([] : List Q3).map dQ)) (.ref q) := fun h => rd_ql h .nil
  obtain ⟨tl, htl, hk⟩ : ∃ tl, PSs (cxOf CX0 P w K mg base ["_law_found", "_law_spots", "_law_ends"] "_law_right" (defScope s_law_right) (ad 18) cdv A outer s H E).nox ((defBody s_law_right).drop 1) tl ∧ ∀ (H1 : Hp), Same H H1 →
      tl { nx := fun _ H' => Q .non H', rt := Q } [some (.ref l), some (.ref m), none] H1 := by
    have qpss5 := @pss5
    have qps_if := @ps_if
    have qpt_cmpR := @pt_cmpR
    have qpv := @pv
    have qpe_lst := @pe_lst
    have qpa_nil := @pa_nil
    have qpss_one := @pss_one
    have qps_ret := @ps_ret
    have qpe_cmpR := @pe_cmpR
    have qpss_nil := @pss_nil
    have qps_set := @ps_set
    have qpe_call := @pe_call
    have qpa1 := @pa1
    have qpe_ix := @pe_ix
    have qpe_int := @pe_int
    have qpe_slice := @pe_slice
    have qpo_none := @po_none
    have qpo_some := @po_some
    have qpe_comp := @pe_comp
    unfold L2.CompBody at qpe_comp
    have qpi_list := @pi_list
    have qpg_name := @pg_name
    have qpif_one := @pif_one
    have qpa3 := @pa3
    have qpe_and := @pe_and
    have qpe_callB := @pe_callB
    have qpe_callTy := @pe_callTy
    have qpe_one := @pe_one
    have qpa2 := @pa2
    generalize @L2.PE = QE, @L2.PT = QT, @L2.PW = QW, @L2.PA = QA, @L2.PS = QS, @L2.PSs = QSs, @L2.PG = QG, @L2.PGs = QGs, @L2.PI = QI, @L2.PO = QO, @L2.PIf = QIf at qpss5 qps_if qpt_cmpR qpv qpe_lst qpa_nil qpss_one qps_ret qpe_cmpR qpss_nil qps_set qpe_call qpa1 qpe_ix qpe_int qpe_slice qpo_none qpo_some qpe_comp qpi_list qpg_name qpif_one qpa3 qpe_and qpe_callB qpe_callTy qpe_one qpa2 ⊢
    refine ⟨_,
    (qpss5
      (qps_if (qpt_cmpR (op_eqD (hu64 hr)) (qpv 1) (qpe_lst qpa_nil) (nomark _)) (qpss_one (qps_ret (qpe_cmpR (op_eqD (hu64 hr)) (qpv 0) (qpe_lst qpa_nil) (nomark _)))) qpss_nil)
      (qps_set (i := 2) sc_law_right.nd rfl (Or.inr rfl) (qpe_call (ok_law_outermost T) (hr.mono (by decide)) rfl T.law_outermost.mg T.law_outermost.fn.kp T.law_outermost.bn .nil pass0 (qpa1 (qpv 1) ns_Name)))
      (qps_if (qpt_cmpR (op_eqD (hu64 hr)) (qpe_ix ix_listH (qpv 2) qpe_int (fun _ _ => rfl)) (qpe_ix ix_listH (qpv 2) qpe_int (fun _ _ => rfl)) (nomark _)) (qpss_one (qps_ret (qpe_cmpR (op_eqD (hu64 hr)) (qpv 0) (qpe_slice sl_listH (qpv 2) qpo_none (qpo_some qpe_int)) (nomark _)))) qpss_nil)
      (qps_if (qpt_cmpR (op_eqD (hu64 hr)) (qpe_comp (dsc := defScope s_law_right) (N := ["_law_found", "_law_spots", "_law_ends"]) (own := ["_law_spot"]) (ix := [2]) rfl rfl rfl ⟨rfl, by decide +kernel, by decide +kernel, by decide +kernel, by decide +kernel⟩ (qpi_list (qpv 1)) (fun cl C fp s2 H2 xe => ⟨(qpg_name (i := 0) (show List.Nodup (["_law_spot", "_law_ends"] : List Str) from by decide +kernel) rfl (Or.inl rfl)), (qpif_one (qpt_cmpR op_ne (qpe_call (ok_law_turn T) (hr.mono (by decide)) rfl T.law_turn.mg T.law_turn.fn.kp T.law_turn.bn .nil pass0 (qpa3 (qpe_ix ix_listH (qpv 1) qpe_int (fun _ _ => rfl)) ns_Subscript (qpe_ix ix_listH (qpv 1) qpe_int (fun _ _ => rfl)) ns_Subscript (qpv 0) ns_Name)) qpe_int (nomark _))), (qpv 0)⟩)) (qpe_lst qpa_nil) (nomark _)) (qpss_one (qps_ret (qpe_cmpR (op_eqD (hu64 hr)) (qpv 0) (qpv 2) (nomark _)))) qpss_nil)
      (qps_ret (qpe_and (qpe_cmpR op_gt (qpe_callB call_lenH rfl T.b_len bt_len (qpa1 (qpv 0) ns_Name)) qpe_int (nomark _)) (qpe_and (qpe_cmpR (op_eqD (hu64 hr)) (qpe_ix ix_listH (qpv 0) qpe_int (fun _ _ => rfl)) (qpe_ix ix_listH (qpv 2) qpe_int (fun _ _ => rfl)) (nomark _)) (qpe_and (qpe_cmpR op_eq (qpe_callB call_lenS rfl T.b_len bt_len (qpa1 (qpe_callTy (call_setR (hu64 hr) rfl) rfl T.b_set bt_set (qpa1 (qpv 0) ns_Name)) ns_Call)) (qpe_callB call_lenH rfl T.b_len bt_len (qpa1 (qpv 0) ns_Name)) (nomark _)) (qpe_one (qpe_call (ok_law_round T) (hr.mono (by decide)) rfl T.law_round.mg T.law_round.fn.kp T.law_round.bn .nil pass0 (qpa2 (qpv 0) ns_Name (qpv 1) ns_Name))))))))
      , fun H1 g1 => ?_⟩
    clear  qpss5 qps_if qpt_cmpR qpv qpe_lst qpa_nil qpss_one qps_ret qpe_cmpR qpss_nil qps_set qpe_call qpa1 qpe_ix qpe_int qpe_slice qpo_none qpo_some qpe_comp qpi_list qpg_name qpif_one qpa3 qpe_and qpe_callB qpe_callTy qpe_one qpa2 QE QT QW QA QS QSs QG QGs QI QO QIf
    simp only [rSetT, rLenS, tSeq, tNext, tRet, tRetN, tIfS, tAsg, gName, tDrop, tVar, tC, tOp, tUn, rI, rI0, rU, rEq, rNe, tTest, tB, tNot, tAnd, tOr, tAndV, tOrV, tNotV, tIf, tCB, tCall, tNil, tCons, tTup, tLst, gTup, gCons, gNil, L2.start, rIsi, rIxT, rIxL, cx_K, tyN_non, tyN_bl, tyN_int, tyN_str, isi_ii, isi_ib, isi_it, isi_il, isi_bi, isi_bb, isi_tt, isi_ni, isi_si, isi_ti, isi_li, isi_di, isi_ll, scal_ii, scal_bb, sz0, sz1, sz2, sz3, sz4, List.map_cons, List.map_nil, List.length_cons, List.length_nil, List.replicate, List.cons_append, List.nil_append, List.append_nil, List.getElem?_cons_zero, List.getElem?_cons_succ, List.set_cons_zero, List.set_cons_succ, Option.some.injEq, V.int.injEq, V.bl.injEq, V.ref.injEq, V.ty.injEq, List.cons.injEq, and_true, true_and, exists_eq_left, exists_eq_left', exists_and_left, exists_and_right, exists_eq, exists_eq', and_assoc, Nat.reduceAdd, Nat.reduceSub, Bool.not_true, Bool.not_false, Bool.false_eq_true, if_true, if_false, reduceIte, Nat.zero_add, decide_true, decide_false, selC, comp_K, tYes, Option.join_some, rIxTH, rIxLH, rLenH, rIsiF, at0, at1, at2, at3, at4, at5, at6, at7, at8, HO.tup.injEq, HO.lst.injEq, reduceCtorEq, false_or, or_false, tyF_non, tyF_bl, tyF_int, tyF_str, exists_const, Int.reduceAdd, Int.reduceMul, Int.reduceSub, gSub, rSetL, tSl, tPart, tNoPart, rSlH, upd_same, upd_upd, rIntB, rListH, tBM, tBM0, rAppend, rClear, tPar, gTupH]
    intro E1 hE1
    have g2 := same_new hE1 (HO.lst [])
    have hE2 : upd H1 E1 (HO.lst []) E1 = some (HO.lst []) := upd_same
    generalize upd H1 E1 (HO.lst []) = H2 at *
    have g02 := g1.trans g2
    refine ⟨_, _, rd_ql (g02 _ _ hm) (hy.same g02), nil_rd hE2, dQs_shaped _, dQs_shaped _, _, rfl, ?_⟩
    rw [dQs_eqv]
    by_cases pn : ps = []
    · rw [decide_eq_true pn]
      refine iteT ?_
      intro E3 hE3
      have g3 := same_new hE3 (HO.lst [])
      have hE33 : upd H2 E3 (HO.lst []) E3 = some (HO.lst []) := upd_same
      generalize upd H2 E3 (HO.lst []) = H3 at *
      have g03 := g02.trans g3
      refine ⟨_, _, rd_ql (g03 _ _ hl) (hz.same g03), nil_rd hE33, dQs_shaped _, dQs_shaped _, ?_⟩
      rw [dQs_eqv, ord_nil oo pn, decide_eq_true (show hullF [] = [] from rfl)]
      exact k _ g03
    rw [decide_eq_false pn]
    refine iteF ?_
    have y0 : 0 < ys.length := by
      rw [hy.1]
      exact List.length_pos_iff.mpr pn
    refine ⟨m, ys, ps, rfl, g02 _ _ hm, y0, hy.same g02, fun D pa pb lo hi H3 hD g3 hD3 ha hb ou => ?_⟩
    have g03 := g02.trans g3
    obtain ⟨hf, hl'⟩ := ord_ends (fun p hp => mem_pq hy hp) oo ou
    refine ⟨D, rfl, _, hD3, _, at0, D, rfl, _, hD3, _, at1, _, _, rd_q ha, rd_q hb, dQ_shaped _, dQ_shaped _, _, rfl, ?_⟩
    rw [dQ_eqv]
    by_cases ne : lo = hi
    · rw [decide_eq_true ne]
      refine iteT ⟨D, rfl, _, hD3, fun E4 hE4 => ?_⟩
      rw [cut_to1]
      have g4 := same_new hE4 (HO.lst [V.ref pa])
      have hE44 : upd H3 E4 (HO.lst [V.ref pa]) E4 = some (HO.lst [V.ref pa]) := upd_same
      show rEqD K (V.ref l) (V.ref E4) (upd H3 E4 (HO.lst [V.ref pa])) Q
      generalize upd H3 E4 (HO.lst [V.ref pa]) = H4 at *
      have g04 := g03.trans g4
      refine ⟨_, _, rd_ql (g04 _ _ hl) (hz.same g04), rd_ql hE44 (F := [lo]) (.one (ha.same g4)), dQs_shaped _, dQs_shaped _, ?_⟩
      rw [← ne] at hl'
      rw [dQs_eqv, decide_eq_true (ord_one pw hf hl')]
      exact k _ g04
    rw [decide_eq_false ne]
    refine iteF ?_
    refine tComp_mk ?_
    simp only [iList, tSeq, tNext, tRet, tRetN, tIfS, tAsg, gName, tDrop, tVar, tC, tOp, tUn, rI, rI0, rU, rEq, rNe, tTest, tB, tNot, tAnd, tOr, tAndV, tOrV, tNotV, tIf, tCB, tCall, tNil, tCons, tTup, tLst, gTup, gCons, gNil, L2.start, rIsi, rIxT, rIxL, cx_K, tyN_non, tyN_bl, tyN_int, tyN_str, isi_ii, isi_ib, isi_it, isi_il, isi_bi, isi_bb, isi_tt, isi_ni, isi_si, isi_ti, isi_li, isi_di, isi_ll, scal_ii, scal_bb, sz0, sz1, sz2, sz3, sz4, List.map_cons, List.map_nil, List.length_cons, List.length_nil, List.replicate, List.cons_append, List.nil_append, List.append_nil, List.getElem?_cons_zero, List.getElem?_cons_succ, List.set_cons_zero, List.set_cons_succ, Option.some.injEq, V.int.injEq, V.bl.injEq, V.ref.injEq, V.ty.injEq, List.cons.injEq, and_true, true_and, exists_eq_left, exists_eq_left', exists_and_left, exists_and_right, exists_eq, exists_eq', and_assoc, Nat.reduceAdd, Nat.reduceSub, Bool.not_true, Bool.not_false, Bool.false_eq_true, if_true, if_false, reduceIte, Nat.zero_add, decide_true, decide_false, selC, comp_K, tYes, Option.join_some, rIxTH, rIxLH, rLenH, rIsiF, at0, at1, at2, at3, at4, at5, at6, at7, at8, HO.tup.injEq, HO.lst.injEq, reduceCtorEq, false_or, or_false, tyF_non, tyF_bl, tyF_int, tyF_str, exists_const, Int.reduceAdd, Int.reduceMul, Int.reduceSub, gSub, rSetL, tSl, tPart, tNoPart, rSlH, upd_same, upd_upd, rIntB, rListH, tBM, tBM0, rAppend, rClear, tPar, gTupH]
    refine ⟨⟨_, .of (g03 _ _ hm)⟩, fun C hC => ?_⟩
    refine comp_list (xs := ys) (fun i qs H' => Same H3 H' ∧ H' C = some (.lst qs) ∧ qs.length ≤ i ∧ LR QH H' qs ((ps.take i).filter fun r => decide (dt lo hi r ≠ 0))) ⟨same_new hC _, upd_same, Nat.le_refl _, by rw [List.take_zero]; exact .nil⟩ (fun i qs H' z => .of (z.1 _ _ (g03 _ _ hm))) ?_ ?_
    · rintro i qs H4 v hi4 hv ⟨g4, hC4, l4, hq4⟩
      obtain ⟨q, r, rfl, hr', hqr⟩ := hy.2 i v hv
      have g04 := g03.trans g4
      have hq := hqr.same g04
      have ha4 := ha.same g4
      have hb4 := hb.same g4
      have hD4 := g4 _ _ hD3
      have et : (ps.take (i + 1)).filter (fun r => decide (dt lo hi r ≠ 0)) = (ps.take i).filter (fun r => decide (dt lo hi r ≠ 0)) ++ [r].filter (fun r => decide (dt lo hi r ≠ 0)) := by
        rw [List.take_add_one, hr', List.filter_append]; rfl
      have li : ys.length ≤ 24 := by rw [hy.1]; exact l24
      simp only [tSeq, tNext, tRet, tRetN, tIfS, tAsg, gName, tDrop, tVar, tC, tOp, tUn, rI, rI0, rU, rEq, rNe, tTest, tB, tNot, tAnd, tOr, tAndV, tOrV, tNotV, tIf, tCB, tCall, tNil, tCons, tTup, tLst, gTup, gCons, gNil, L2.start, rIsi, rIxT, rIxL, cx_K, tyN_non, tyN_bl, tyN_int, tyN_str, isi_ii, isi_ib, isi_it, isi_il, isi_bi, isi_bb, isi_tt, isi_ni, isi_si, isi_ti, isi_li, isi_di, isi_ll, scal_ii, scal_bb, sz0, sz1, sz2, sz3, sz4, List.map_cons, List.map_nil, List.length_cons, List.length_nil, List.replicate, List.cons_append, List.nil_append, List.append_nil, List.getElem?_cons_zero, List.getElem?_cons_succ, List.set_cons_zero, List.set_cons_succ, Option.some.injEq, V.int.injEq, V.bl.injEq, V.ref.injEq, V.ty.injEq, List.cons.injEq, and_true, true_and, exists_eq_left, exists_eq_left', exists_and_left, exists_and_right, exists_eq, exists_eq', and_assoc, Nat.reduceAdd, Nat.reduceSub, Bool.not_true, Bool.not_false, Bool.false_eq_true, if_true, if_false, reduceIte, Nat.zero_add, decide_true, decide_false, selC, comp_K, tYes, Option.join_some, rIxTH, rIxLH, rLenH, rIsiF, at0, at1, at2, at3, at4, at5, at6, at7, at8, HO.tup.injEq, HO.lst.injEq, reduceCtorEq, false_or, or_false, tyF_non, tyF_bl, tyF_int, tyF_str, exists_const, Int.reduceAdd, Int.reduceMul, Int.reduceSub, gSub, rSetL, tSl, tPart, tNoPart, rSlH, upd_same, upd_upd, rIntB, rListH, tBM, tBM0, rAppend, rClear, tPar, gTupH, hD4]
      refine ⟨pa, pb, q, _, _, _, _, _, _, _, _, _, rfl, ha4.tb, hb4.tb, hq.tb, scal_ii, ite2 (fun d => ?_) (fun d => ?_)⟩
      · have d' : dt lo hi r ≠ 0 := fun z => by
          have : sgn (det3 lo.x lo.y lo.w hi.x hi.y hi.w r.x r.y r.w) = 0 := by
            have z : det3 lo.x lo.y lo.w hi.x hi.y hi.w r.x r.y r.w = 0 := z
            rw [z]; rfl
          simp [this] at d
        refine cw_put hi4 hC4 (small1000 (by omega)) ⟨same_put g4 hC, upd_same, by rw [List.length_append, List.length_singleton]; omega, ?_⟩
        rw [et, List.filter_cons_of_pos (by simpa using d'), List.filter_nil]
        exact (hq4.snoc hq).ts qh_ts (ts_put hC4)
      · have d' : dt lo hi r = 0 := by
          have : sgn (det3 lo.x lo.y lo.w hi.x hi.y hi.w r.x r.y r.w) = 0 := by simpa using d
          exact sgn_eq_zero.mp this
        refine cw_skip hi4 (ys := qs) ⟨g4, hC4, by omega, ?_⟩
        rw [et, List.filter_cons_of_neg (by simpa using d'), List.filter_nil, List.append_nil]
        exact hq4
    · rintro qs H4 ⟨g4, hC4, l4, hq4⟩
      rw [List.take_of_length_le (by rw [hy.1]; exact Nat.le_refl _)] at hq4
      intro E5 hE5
      have g5 := same_new hE5 (HO.lst [])
      have hE55 : upd H4 E5 (HO.lst []) E5 = some (HO.lst []) := upd_same
      generalize upd H4 E5 (HO.lst []) = H5 at *
      have g35 := g4.trans g5
      have g05 := g03.trans g35
      refine ⟨_, _, rd_ql (g5 _ _ hC4) (hq4.same g5), nil_rd hE55, dQs_shaped _, dQs_shaped _, _, rfl, ?_⟩
      rw [dQs_eqv]
      have hl5 := g05 _ _ hl
      have hz5 := hz.same g05
      have hD5 := g35 _ _ hD3
      have ha5 := ha.same g35
      have hb5 := hb.same g35
      by_cases fl : ∀ q, q ∈ os → dt lo hi q = 0
      · have ef : (ps.filter fun r => decide (dt lo hi r ≠ 0)) = [] := List.filter_eq_nil_iff.mpr fun r hr => by
          have := fl r ((oo.2.1 r).mpr hr)
          simpa using this
        rw [decide_eq_true ef]
        refine iteT ⟨_, _, rd_ql hl5 hz5, rd_ql hD5 (F := [lo, hi]) ((LR.one ha5).app (LR.one hb5)), dQs_shaped _, dQs_shaped _, ?_⟩
        rw [dQs_eqv, decide_eq_true (hull_flat pw hf hl' ne fl)]
        exact k _ g05
      · have ef : ¬ (ps.filter fun r => decide (dt lo hi r ≠ 0)) = [] := fun z => fl fun q hq => by
          have := List.filter_eq_nil_iff.mp z q ((oo.2.1 q).mp hq)
          simpa using this
        rw [decide_eq_false ef]
        obtain ⟨h2, h0, nd, ring⟩ := hull_ring pw hf hl' ne fl
        have lz : zs.length = (hullF os).length := hz.1
        have l24' : (hullF os).length ≤ 24 := by have := nodup_le _ _ nd (hull_sub pw); have := oo.2.2; omega
        refine iteF ⟨zs, .inl hl5, ?_⟩
        rw [decide_eq_true (by omega)]
        refine iteT ?_
        obtain ⟨v0, r0, e0, f0, q0⟩ := hz5.at (j := 0) (by omega)
        rw [h0] at f0
        cases f0
        have E0' : atI zs 0 = some (.ref v0) := atI_nat e0
        refine ⟨zs, hl5, _, E0', _, hD5, _, at0, _, _, rd_q q0, rd_q ha5, dQ_shaped _, dQ_shaped _, _, rfl, ?_⟩
        rw [dQ_eqv, decide_eq_true rfl]
        have z0 : Q3 := ⟨0, 0, 0⟩
        refine iteT ⟨zs, hl5, by omega, fun j => kQ ((hullF os).getD j z0), fun j v hv => ?_, fun i j hi' hj' e => ?_, fun S hS => ?_⟩
        · obtain ⟨b, r, rfl, hr', hq⟩ := hz5.2 j v hv
          refine ⟨b, rfl, ?_⟩
          show H5 b = some (HO.tup ((kQ ((hullF os).getD j z0)).map kV))
          rw [List.getD_eq_getElem?_getD, hr', kQ_map]
          exact hq.1
        · have e := kQ_inj e
          have hi2 : i < (hullF os).length := by omega
          have hj2 : j < (hullF os).length := by omega
          rw [List.getD_eq_getElem?_getD, List.getD_eq_getElem?_getD, List.getElem?_eq_getElem hi2, List.getElem?_eq_getElem hj2] at e
          exact (List.getElem_inj nd).mp e
        · have gS := same_new hS (setO S zs.length)
          have g0S := g05.trans gS
          refine ⟨zs.length, rfl, Nat.le_of_lt (small1000 (by omega)), zs, .inl (gS _ _ hl5), ?_⟩
          rw [decide_eq_true rfl]
          exact iteT ⟨l, m, zs, ys, hullF os, ps, rfl, g0S _ _ hl, g0S _ _ hm, hz.same g0S, hy.same g0S, h2, by omega, ⟨fun k a b h1 h2 h3 q hq => ring.edge k a b h1 h2 h3 q ((oo.2.1 q).mpr hq), ring.tri⟩, k _ g0S⟩
  have qpss_cons := @pss_cons
  have qps_if := @ps_if
  have qPWpt := @PW.pt
  have qpw_or := @pw_or
  have qpt_not := @pt_not
  have qpt_val := @pt_val
  have qpe_callB := @pe_callB
  have qpa2 := @pa2
  have qpv := @pv
  have qpe_bltn := @pe_bltn
  have qpw_or1 := @pw_or1
  have qpt_cmpR := @pt_cmpR
  have qpe_comp := @pe_comp
  unfold L2.CompBody at qpe_comp
  have qpi_list := @pi_list
  have qpg_name := @pg_name
  have qpif_one := @pif_one
  have qpe_lst := @pe_lst
  have qpa_nil := @pa_nil
  have qpss_one := @pss_one
  have qps_ret := @ps_ret
  have qpe_bl := @pe_bl
  have qpss_nil := @pss_nil
  generalize @L2.PE = QE, @L2.PT = QT, @L2.PW = QW, @L2.PA = QA, @L2.PS = QS, @L2.PSs = QSs, @L2.PG = QG, @L2.PGs = QGs, @L2.PI = QI, @L2.PO = QO, @L2.PIf = QIf at qpss_cons qps_if qPWpt qpw_or qpt_not qpt_val qpe_callB qpa2 qpv qpe_bltn qpw_or1 qpt_cmpR qpe_comp qpi_list qpg_name qpif_one qpe_lst qpa_nil qpss_one qps_ret qpe_bl qpss_nil htl ⊢
  refine ⟨_,
    (qpss_cons (qps_if (qPWpt (qpw_or (qpt_not (qpt_val (qpe_callB (isiF call_isi_list) rfl T.b_isinstance bt_isinstance (qpa2 (qpv 0) ns_Name (qpe_bltn (v := .ty "list") rfl T.b_list bt_list rfl) ns_Name)))) (qpw_or1 (qpt_cmpR (op_neD (hu64 hr)) (qpe_comp (dsc := defScope s_law_right) (N := ["_law_found", "_law_spots", "_law_ends"]) (own := ["_law_spot"]) (ix := [1]) rfl rfl rfl ⟨rfl, by decide +kernel, by decide +kernel, by decide +kernel, by decide +kernel⟩ (qpi_list (qpv 0)) (fun cl C fp s2 H2 xe => ⟨(qpg_name (i := 0) (show List.Nodup (["_law_spot", "_law_spots"] : List Str) from by decide +kernel) rfl (Or.inl rfl)), (qpif_one (qpt_cmpR (op_notInK (K' := K) rfl (hu64 hr)) (qpv 0) (qpv 1) rfl)), (qpv 0)⟩)) (qpe_lst qpa_nil) (nomark _))))) (qpss_one (qps_ret qpe_bl)) qpss_nil)
      htl)
    , ?_⟩
  clear htl qpss_cons qps_if qPWpt qpw_or qpt_not qpt_val qpe_callB qpa2 qpv qpe_bltn qpw_or1 qpt_cmpR qpe_comp qpi_list qpg_name qpif_one qpe_lst qpa_nil qpss_one qps_ret qpe_bl qpss_nil QE QT QW QA QS QSs QG QGs QI QO QIf
  have ht := tyF_lst hl
  simp only [tSeq, tNext, tRet, tRetN, tIfS, tAsg, gName, tDrop, tVar, tC, tOp, tUn, rI, rI0, rU, rEq, rNe, tTest, tB, tNot, tAnd, tOr, tAndV, tOrV, tNotV, tIf, tCB, tCall, tNil, tCons, tTup, tLst, gTup, gCons, gNil, L2.start, rIsi, rIxT, rIxL, cx_K, tyN_non, tyN_bl, tyN_int, tyN_str, isi_ii, isi_ib, isi_it, isi_il, isi_bi, isi_bb, isi_tt, isi_ni, isi_si, isi_ti, isi_li, isi_di, isi_ll, scal_ii, scal_bb, sz0, sz1, sz2, sz3, sz4, List.map_cons, List.map_nil, List.length_cons, List.length_nil, List.replicate, List.cons_append, List.nil_append, List.append_nil, List.getElem?_cons_zero, List.getElem?_cons_succ, List.set_cons_zero, List.set_cons_succ, Option.some.injEq, V.int.injEq, V.bl.injEq, V.ref.injEq, V.ty.injEq, List.cons.injEq, and_true, true_and, exists_eq_left, exists_eq_left', exists_and_left, exists_and_right, exists_eq, exists_eq', and_assoc, Nat.reduceAdd, Nat.reduceSub, Bool.not_true, Bool.not_false, Bool.false_eq_true, if_true, if_false, reduceIte, Nat.zero_add, decide_true, decide_false, selC, comp_K, tYes, Option.join_some, rIxTH, rIxLH, rLenH, rIsiF, at0, at1, at2, at3, at4, at5, at6, at7, at8, HO.tup.injEq, HO.lst.injEq, reduceCtorEq, false_or, or_false, tyF_non, tyF_bl, tyF_int, tyF_str, exists_const, Int.reduceAdd, Int.reduceMul, Int.reduceSub, gSub, rSetL, tSl, tPart, tNoPart, rSlH, upd_same, upd_upd, rIntB, rListH, tBM, tBM0, rAppend, rClear, tPar, gTupH, ht]
  refine tComp_mk ?_
  simp only [iList, rNotInL, tSeq, tNext, tRet, tRetN, tIfS, tAsg, gName, tDrop, tVar, tC, tOp, tUn, rI, rI0, rU, rEq, rNe, tTest, tB, tNot, tAnd, tOr, tAndV, tOrV, tNotV, tIf, tCB, tCall, tNil, tCons, tTup, tLst, gTup, gCons, gNil, L2.start, rIsi, rIxT, rIxL, cx_K, tyN_non, tyN_bl, tyN_int, tyN_str, isi_ii, isi_ib, isi_it, isi_il, isi_bi, isi_bb, isi_tt, isi_ni, isi_si, isi_ti, isi_li, isi_di, isi_ll, scal_ii, scal_bb, sz0, sz1, sz2, sz3, sz4, List.map_cons, List.map_nil, List.length_cons, List.length_nil, List.replicate, List.cons_append, List.nil_append, List.append_nil, List.getElem?_cons_zero, List.getElem?_cons_succ, List.set_cons_zero, List.set_cons_succ, Option.some.injEq, V.int.injEq, V.bl.injEq, V.ref.injEq, V.ty.injEq, List.cons.injEq, and_true, true_and, exists_eq_left, exists_eq_left', exists_and_left, exists_and_right, exists_eq, exists_eq', and_assoc, Nat.reduceAdd, Nat.reduceSub, Bool.not_true, Bool.not_false, Bool.false_eq_true, if_true, if_false, reduceIte, Nat.zero_add, decide_true, decide_false, selC, comp_K, tYes, Option.join_some, rIxTH, rIxLH, rLenH, rIsiF, at0, at1, at2, at3, at4, at5, at6, at7, at8, HO.tup.injEq, HO.lst.injEq, reduceCtorEq, false_or, or_false, tyF_non, tyF_bl, tyF_int, tyF_str, exists_const, Int.reduceAdd, Int.reduceMul, Int.reduceSub, gSub, rSetL, tSl, tPart, tNoPart, rSlH, upd_same, upd_upd, rIntB, rListH, tBM, tBM0, rAppend, rClear, tPar, gTupH]
  refine ⟨⟨_, .of hl⟩, fun D hD => ?_⟩
  refine comp_list (xs := zs) (fun i qs H' => Same H H' ∧ H' D = some (.lst qs) ∧ qs = []) ⟨same_new hD _, upd_same, rfl⟩ (fun i qs H' z => .of (z.1 _ _ hl)) ?_ ?_
  · rintro i qs H1 v hi hv ⟨g1, hD1, rfl⟩
    obtain ⟨p, r, rfl, hr', hq⟩ := hz.2 i v hv
    have mr : r ∈ ps := (oo.2.1 r).mp (hull_sub pw r (List.mem_of_getElem? hr'))
    simp only [tSeq, tNext, tRet, tRetN, tIfS, tAsg, gName, tDrop, tVar, tC, tOp, tUn, rI, rI0, rU, rEq, rNe, tTest, tB, tNot, tAnd, tOr, tAndV, tOrV, tNotV, tIf, tCB, tCall, tNil, tCons, tTup, tLst, gTup, gCons, gNil, L2.start, rIsi, rIxT, rIxL, cx_K, tyN_non, tyN_bl, tyN_int, tyN_str, isi_ii, isi_ib, isi_it, isi_il, isi_bi, isi_bb, isi_tt, isi_ni, isi_si, isi_ti, isi_li, isi_di, isi_ll, scal_ii, scal_bb, sz0, sz1, sz2, sz3, sz4, List.map_cons, List.map_nil, List.length_cons, List.length_nil, List.replicate, List.cons_append, List.nil_append, List.append_nil, List.getElem?_cons_zero, List.getElem?_cons_succ, List.set_cons_zero, List.set_cons_succ, Option.some.injEq, V.int.injEq, V.bl.injEq, V.ref.injEq, V.ty.injEq, List.cons.injEq, and_true, true_and, exists_eq_left, exists_eq_left', exists_and_left, exists_and_right, exists_eq, exists_eq', and_assoc, Nat.reduceAdd, Nat.reduceSub, Bool.not_true, Bool.not_false, Bool.false_eq_true, if_true, if_false, reduceIte, Nat.zero_add, decide_true, decide_false, selC, comp_K, tYes, Option.join_some, rIxTH, rIxLH, rLenH, rIsiF, at0, at1, at2, at3, at4, at5, at6, at7, at8, HO.tup.injEq, HO.lst.injEq, reduceCtorEq, false_or, or_false, tyF_non, tyF_bl, tyF_int, tyF_str, exists_const, Int.reduceAdd, Int.reduceMul, Int.reduceSub, gSub, rSetL, tSl, tPart, tNoPart, rSlH, upd_same, upd_upd, rIntB, rListH, tBM, tBM0, rAppend, rClear, tPar, gTupH]
    refine ⟨_, _, rd_q (hq.same g1), rd_ql (g1 _ _ hm) (hy.same g1), (dQ_lay r).1, (dQs_lay ps).1, Nat.le_trans (dQ_lay r).2 (by decide), _, rfl, ?_⟩
    rw [dQs_any, decide_eq_true mr]
    exact iteF (cw_skip hi (ys := []) ⟨g1, hD1, rfl⟩)
  · rintro qs H1 ⟨g1, hD1, rfl⟩
    intro E1 hE1
    have g2 := same_new hE1 (HO.lst [])
    have hE2 : upd H1 E1 (HO.lst []) E1 = some (HO.lst []) := upd_same
    generalize upd H1 E1 (HO.lst []) = H2 at *
    refine ⟨_, _, nil_rd (g2 _ _ hD1), nil_rd hE2, dQs_shaped _, dQs_shaped _, _, rfl, ?_⟩
    rw [dQs_eqv, decide_eq_true (show ([] : List Q3) = [] from rfl)]
    exact iteF (hk H2 (g1.trans g2))
def sp_lawT (K : PySem.W.Frag) (ts : List Addr) : Sp := fun vs H Q _ => ∃ (a : Addr) (ns : List Int), vs = [.ref a] ∧ SqL K H a (ns.map V.int) ∧ ns.length ≤ 63 ∧ (∀ b, b ∈ ts → LamTab H b lposB qlB) ∧ ∀ H', Q (.bl true) H'
theorem lamTab_new {H : Hp} {b : Addr} {pos : Pos} {q : Str} (h : H b = some (.tbl #[])) : LamTab H b pos q := ⟨#[], h, by trivial, .inl rfl⟩
theorem lt_put {H : Hp} {P F : Addr} {pos : Pos} {q : Str} {ys : List V} {o : HO} (h : LamTab H P pos q) (hF : H F = some (.lst ys)) : LamTab (upd H F o) P pos q := by
  obtain ⟨ps, h1, h2, h3⟩ := h
  refine ⟨ps, by rw [upd_ne (ne_of h1 hF fun z => nomatch z)]; exact h1, h2, h3.imp id fun ⟨c, e, hc⟩ => ⟨c, e, by rw [upd_ne (ne_of hc hF fun z => nomatch z)]; exact hc⟩⟩
theorem ord_uniq : ∀ {a b : List Q3}, a.Pairwise (Lt 1) → b.Pairwise (Lt 1) → (∀ p, p ∈ a ↔ p ∈ b) → a = b
  | [], [], _, _, _ => rfl
  | [], y :: b, _, _, h => by have := (h y).mpr (by simp); cases this
  | x :: a, [], _, _, h => by have := (h x).mp (by simp); cases this
  | x :: a, y :: b, ha, hb, h => by
    obtain ⟨a1, a2⟩ := List.pairwise_cons.mp ha
    obtain ⟨b1, b2⟩ := List.pairwise_cons.mp hb
    have e : x = y := by
      rcases List.mem_cons.mp ((h x).mp (by simp)) with e | hx
      · exact e
      · rcases List.mem_cons.mp ((h y).mpr (by simp)) with e | hy
        · exact e.symm
        · exact (lt_asym (a1 y hy) (b1 x hx)).elim
    subst e
    rw [ord_uniq a2 b2 fun p => ⟨fun hp => ?_, fun hp => ?_⟩]
    · rcases List.mem_cons.mp ((h p).mp (List.mem_cons_of_mem _ hp)) with e | hp'
      · rw [e] at hp; exact (lt_irr (a1 x hp)).elim
      · exact hp'
    · rcases List.mem_cons.mp ((h p).mpr (List.mem_cons_of_mem _ hp)) with e | hp'
      · rw [e] at hp; exact (lt_irr (b1 x hp)).elim
      · exact hp'
theorem ord_same {a b ps : List Q3} (ha : OrdOf a ps) (hb : OrdOf b ps) : a = b := ord_uniq ha.1 hb.1 fun p => (ha.2.1 p).trans (hb.2.1 p).symm
theorem ok_law (T : Txt K mg ad fd) (hK : K.In base) (hB : base.BuiltinsAt mg (ad 21)) : FnOk P w K mg base CX0 6 (ad 19) (fd 19) ["_law_script"] (sp_lawT K [ad 21]) := by
  refine T.law.fn.ok sc_law (fun vs H Q E h => ?_) (fun cdv A outer s H vs Q E hr h => ?_)
  · obtain ⟨a, ns, rfl, _⟩ := h
    rfl
  obtain ⟨a0, ns, rfl, hS, hlen, lts, k⟩ := h
  have lt := lts _ (List.mem_singleton.mpr rfl)
  clear lts
  have qpss9 := @pss9
  have qps_set := @ps_set
  have qpe_call := @pe_call
  have qpa1 := @pa1
  have qpv := @pv
  have qpe_callTy := @pe_callTy
  have qps_if := @ps_if
  have qPWpt := @PW.pt
  have qpw_or := @pw_or
  have qpt_not := @pt_not
  have qpt_val := @pt_val
  have qpa2 := @pa2
  have qpw_or1 := @pw_or1
  have qpt_cmpR := @pt_cmpR
  have qpss_one := @pss_one
  have qps_ret := @ps_ret
  have qpe_bl := @pe_bl
  have qpss_nil := @pss_nil
  have qps_expr := @ps_expr
  have qpe_slice := @pe_slice
  have qpo_some := @po_some
  have qpe_int := @pe_int
  have qpo_none := @po_none
  have qpe_bm0 := @pe_bm0
  have qpe_cmpR := @pe_cmpR
  generalize @L2.PE = QE, @L2.PT = QT, @L2.PW = QW, @L2.PA = QA, @L2.PS = QS, @L2.PSs = QSs, @L2.PG = QG, @L2.PGs = QGs, @L2.PI = QI, @L2.PO = QO, @L2.PIf = QIf at qpss9 qps_set qpe_call qpa1 qpv qpe_callTy qps_if qPWpt qpw_or qpt_not qpt_val qpa2 qpw_or1 qpt_cmpR qpss_one qps_ret qpe_bl qpss_nil qps_expr qpe_slice qpo_some qpe_int qpo_none qpe_bm0 qpe_cmpR ⊢
  refine ⟨_,
    (qpss9
      (qps_set (i := 1) sc_law.nd rfl (Or.inl rfl) (qpe_call (ok_law_points T) (hr.mono (by decide)) rfl T.law_points.mg T.law_points.fn.kp T.law_points.bn .nil pass0 (qpa1 (qpv 0) ns_Name)))
      (qps_set (i := 2) sc_law.nd rfl (Or.inl rfl) (qpe_callTy call_listH rfl T.b_list bt_list (qpa1 (qpv 1) ns_Name)))
      (qps_set (i := 3) sc_law.nd rfl (Or.inl rfl) (qpe_call (ok_hull T hK hB) (hr.mono (by decide)) rfl T.hull.mg T.hull.fn.kp T.hull.bn .nil pass0 (qpa1 (qpv 2) ns_Name)))
      (qps_if (qPWpt (qpw_or (qpt_not (qpt_val (qpe_call (ok_law_right T) (hr.mono (by decide)) rfl T.law_right.mg T.law_right.fn.kp T.law_right.bn .nil pass0 (qpa2 (qpv 3) ns_Name (qpv 1) ns_Name)))) (qpw_or1 (qpt_cmpR (op_neD (hu64 hr)) (qpv 2) (qpv 1) (nomark _))))) (qpss_one (qps_ret qpe_bl)) qpss_nil)
      (qps_set (i := 4) sc_law.nd rfl (Or.inl rfl) (qpe_callTy call_listH rfl T.b_list bt_list (qpa1 (qpv 3) ns_Name)))
      (qps_expr (qpe_call (ok_hull T hK hB) (hr.mono (by decide)) rfl T.hull.mg T.hull.fn.kp T.hull.bn .nil pass0 (qpa1 (qpe_slice sl_listH (qpv 1) (qpo_some qpe_int) qpo_none) ns_Subscript)))
      (qps_if (qpt_cmpR (op_neD (hu64 hr)) (qpv 3) (qpv 4) (nomark _)) (qpss_one (qps_ret qpe_bl)) qpss_nil)
      (qps_expr (qpe_bm0 PySem.F.plainAttrs_list PySem.F.slot_list_clear PySem.F.type_list_clear mt_clear (qpv 3)))
      (qps_ret (qpe_cmpR (op_eqD (hu64 hr)) (qpe_call (ok_hull T hK hB) (hr.mono (by decide)) rfl T.hull.mg T.hull.fn.kp T.hull.bn .nil pass0 (qpa1 (qpv 2) ns_Name)) (qpv 4) (nomark _))))
    , ?_⟩
  clear  qpss9 qps_set qpe_call qpa1 qpv qpe_callTy qps_if qPWpt qpw_or qpt_not qpt_val qpa2 qpw_or1 qpt_cmpR qpss_one qps_ret qpe_bl qpss_nil qps_expr qpe_slice qpo_some qpe_int qpo_none qpe_bm0 qpe_cmpR QE QT QW QA QS QSs QG QGs QI QO QIf
  simp only [tSeq, tNext, tRet, tRetN, tIfS, tAsg, gName, tDrop, tVar, tC, tOp, tUn, rI, rI0, rU, rEq, rNe, tTest, tB, tNot, tAnd, tOr, tAndV, tOrV, tNotV, tIf, tCB, tCall, tNil, tCons, tTup, tLst, gTup, gCons, gNil, L2.start, rIsi, rIxT, rIxL, cx_K, tyN_non, tyN_bl, tyN_int, tyN_str, isi_ii, isi_ib, isi_it, isi_il, isi_bi, isi_bb, isi_tt, isi_ni, isi_si, isi_ti, isi_li, isi_di, isi_ll, scal_ii, scal_bb, sz0, sz1, sz2, sz3, sz4, List.map_cons, List.map_nil, List.length_cons, List.length_nil, List.replicate, List.cons_append, List.nil_append, List.append_nil, List.getElem?_cons_zero, List.getElem?_cons_succ, List.set_cons_zero, List.set_cons_succ, Option.some.injEq, V.int.injEq, V.bl.injEq, V.ref.injEq, V.ty.injEq, List.cons.injEq, and_true, true_and, exists_eq_left, exists_eq_left', exists_and_left, exists_and_right, exists_eq, exists_eq', and_assoc, Nat.reduceAdd, Nat.reduceSub, Bool.not_true, Bool.not_false, Bool.false_eq_true, if_true, if_false, reduceIte, Nat.zero_add, decide_true, decide_false, selC, comp_K, tYes, Option.join_some, rIxTH, rIxLH, rLenH, rIsiF, at0, at1, at2, at3, at4, at5, at6, at7, at8, HO.tup.injEq, HO.lst.injEq, reduceCtorEq, false_or, or_false, tyF_non, tyF_bl, tyF_int, tyF_str, exists_const, Int.reduceAdd, Int.reduceMul, Int.reduceSub, gSub, rSetL, tSl, tPart, tNoPart, rSlH, upd_same, upd_upd, rIntB, rListH, tBM, tBM0, rAppend, rClear, tPar, gTupH]
  refine ⟨a0, ns, rfl, hS, fun D ys ps H1 hD g1 hD1 l24 hy => ?_⟩
  have lt1 := lt.same g1
  simp only [tSeq, tNext, tRet, tRetN, tIfS, tAsg, gName, tDrop, tVar, tC, tOp, tUn, rI, rI0, rU, rEq, rNe, tTest, tB, tNot, tAnd, tOr, tAndV, tOrV, tNotV, tIf, tCB, tCall, tNil, tCons, tTup, tLst, gTup, gCons, gNil, L2.start, rIsi, rIxT, rIxL, cx_K, tyN_non, tyN_bl, tyN_int, tyN_str, isi_ii, isi_ib, isi_it, isi_il, isi_bi, isi_bb, isi_tt, isi_ni, isi_si, isi_ti, isi_li, isi_di, isi_ll, scal_ii, scal_bb, sz0, sz1, sz2, sz3, sz4, List.map_cons, List.map_nil, List.length_cons, List.length_nil, List.replicate, List.cons_append, List.nil_append, List.append_nil, List.getElem?_cons_zero, List.getElem?_cons_succ, List.set_cons_zero, List.set_cons_succ, Option.some.injEq, V.int.injEq, V.bl.injEq, V.ref.injEq, V.ty.injEq, List.cons.injEq, and_true, true_and, exists_eq_left, exists_eq_left', exists_and_left, exists_and_right, exists_eq, exists_eq', and_assoc, Nat.reduceAdd, Nat.reduceSub, Bool.not_true, Bool.not_false, Bool.false_eq_true, if_true, if_false, reduceIte, Nat.zero_add, decide_true, decide_false, selC, comp_K, tYes, Option.join_some, rIxTH, rIxLH, rLenH, rIsiF, at0, at1, at2, at3, at4, at5, at6, at7, at8, HO.tup.injEq, HO.lst.injEq, reduceCtorEq, false_or, or_false, tyF_non, tyF_bl, tyF_int, tyF_str, exists_const, Int.reduceAdd, Int.reduceMul, Int.reduceSub, gSub, rSetL, tSl, tPart, tNoPart, rSlH, upd_same, upd_upd, rIntB, rListH, tBM, tBM0, rAppend, rClear, tPar, gTupH, hD1]
  intro N hN
  have nDN : D ≠ N := ne_of_none hD1 hN
  have g2 := same_new hN (HO.lst ys)
  have hN2 : upd H1 N (HO.lst ys) N = some (HO.lst ys) := upd_same
  generalize upd H1 N (HO.lst ys) = H2 at *
  have hD2 := g2 _ _ hD1
  have hy2 := hy.same g2
  have lt2 := lt1.same g2
  have lps : ps.length ≤ 24 := by rw [← hy.1]; exact l24
  refine ⟨N, ys, ps, rfl, hN2, by omega, hy2, lt2, fun F zs os H3 hF st3 lt3 hF3 oo hz => ?_⟩
  have hD3 := st3.lst lt2 hD2
  have hN3 := st3.lst lt2 hN2
  have hy3 : LR QH H3 ys ps := hy2.ts qh_ts fun b xs q => st3.tup lt2 q
  have nDF : D ≠ F := ne_of_none hD2 hF
  have nNF : N ≠ F := ne_of_none hN2 hF
  refine ⟨F, D, zs, ys, os, ps, rfl, hF3, hD3, hz, hy3, oo, lps, fun H4 g4 => ⟨true, rfl, iteF ?_⟩⟩
  have hD4 := g4 _ _ hD3
  have hN4 := g4 _ _ hN3
  have hF4 := g4 _ _ hF3
  have hy4 := hy3.same g4
  have hz4 := hz.same g4
  have lt4 := lt3.same g4
  refine ⟨_, _, rd_ql hN4 hy4, rd_ql hD4 hy4, dQs_shaped _, dQs_shaped _, _, rfl, ?_⟩
  rw [dQs_eqv, decide_eq_true (show ps = ps from rfl)]
  refine iteF ⟨F, rfl, zs, .inl hF4, fun L hL => ?_⟩
  have g5 := same_new hL (HO.lst zs)
  have hL5 : upd H4 L (HO.lst zs) L = some (HO.lst zs) := upd_same
  have nLF : L ≠ F := (ne_of_none hF4 hL).symm
  generalize upd H4 L (HO.lst zs) = H5 at *
  refine ⟨ys, g5 _ _ hD4, fun S hS => ?_⟩
  rw [cut_from1]
  have g6 := same_new hS (HO.lst (ys.drop 1))
  have hS6 : upd H5 S (HO.lst (ys.drop 1)) S = some (HO.lst (ys.drop 1)) := upd_same
  generalize upd H5 S (HO.lst (ys.drop 1)) = H6 at *
  have g46 := g5.trans g6
  have lt6 := lt4.same g46
  have hL6 := g6 _ _ hL5
  refine ⟨S, ys.drop 1, ps.drop 1, rfl, hS6, by rw [List.length_drop]; omega, (hy4.same g46).drop 1, lt6, fun F2 zs2 os2 H7 hF2 st7 lt7 hF27 oo2 hz2 => ?_⟩
  have ts7 : TupSame H6 H7 := fun b xs q => st7.tup lt6 q
  have hF7 := st7.lst lt6 (g46 _ _ hF4)
  have hN7 := st7.lst lt6 (g46 _ _ hN4)
  have hL7 := st7.lst lt6 hL6
  have hz7 := (hz4.same g46).ts qh_ts ts7
  have hy7 := (hy4.same g46).ts qh_ts ts7
  refine ⟨_, _, rd_ql hF7 hz7, rd_ql hL7 hz7, dQs_shaped _, dQs_shaped _, _, rfl, ?_⟩
  rw [dQs_eqv, decide_eq_true (show hullF os = hullF os from rfl)]
  refine iteF ⟨tyV_of hF7, F, rfl, ⟨zs, hF7⟩, ?_⟩
  have ts8 : TupSame H7 (upd H7 F (HO.lst [])) := ts_put hF7
  have hN8 : upd H7 F (HO.lst []) N = some (.lst ys) := by rw [upd_ne nNF]; exact hN7
  have hL8 : upd H7 F (HO.lst []) L = some (.lst zs) := by rw [upd_ne nLF]; exact hL7
  have lt8 : LamTab (upd H7 F (HO.lst [])) (ad 21) lposB qlB := lt_put lt7 hF7
  have hy8 := hy7.ts qh_ts ts8
  have hz8 := hz7.ts qh_ts ts8
  generalize upd H7 F (HO.lst []) = H8 at *
  refine ⟨N, ys, ps, rfl, hN8, by omega, hy8, lt8, fun F3 zs3 os3 H9 hF3' st9 lt9 hF39 oo3 hz3 => ?_⟩
  have ts9 : TupSame H8 H9 := fun b xs q => st9.tup lt8 q
  have e := ord_same oo3 oo
  subst e
  refine ⟨_, _, rd_ql hF39 hz3, rd_ql (st9.lst lt8 hL8) (hz8.ts qh_ts ts9), dQs_shaped _, dQs_shaped _, ?_⟩
  rw [dQs_eqv, decide_eq_true (show hullF os3 = hullF os3 from rfl)]
  exact k _
end
theorem all_mk {l : PySem.W.OpenLaw} {w : World} {K : PySem.W.Frag} {h : Heap} {mg : Str → Option Value} {fa f0 f1 f2 f3 f4 f5 cT pT f6 f7 f8 f9 f10 f11 f12 f13 f14 f15 f16 f17 f18 f19 : Addr} (X : K.In h) (G : h.Ns mainGlobals mg) (hfa : mg "law" = some (.ref fa))
    {od0 an0 : Option Addr} {sl0 : Array (Option Value)} {oc0 kV0 dc0 pm0 cd0 ct0 : Value}
    {od1 an1 : Option Addr} {sl1 : Array (Option Value)} {oc1 kV1 dc1 pm1 cd1 ct1 : Value}
    {od2 an2 : Option Addr} {sl2 : Array (Option Value)} {oc2 kV2 dc2 pm2 cd2 ct2 : Value}
    {od3 an3 : Option Addr} {sl3 : Array (Option Value)} {oc3 kV3 dc3 pm3 cd3 ct3 : Value}
    {od4 an4 : Option Addr} {sl4 : Array (Option Value)} {oc4 kV4 dc4 pm4 cd4 ct4 : Value}
    {od5 an5 : Option Addr} {sl5 : Array (Option Value)} {oc5 kV5 dc5 pm5 ct5 : Value}
    {tdT : Option Addr} {tvT : Array Value} {tsT : Array (Option Value)} {tcT : Value}
    {od6 an6 : Option Addr} {sl6 : Array (Option Value)} {oc6 kV6 dc6 pm6 cd6 ct6 : Value}
    {od7 an7 : Option Addr} {sl7 : Array (Option Value)} {oc7 kV7 dc7 pm7 cd7 ct7 : Value}
    {od8 an8 : Option Addr} {sl8 : Array (Option Value)} {oc8 kV8 dc8 pm8 cd8 ct8 : Value}
    {od9 an9 : Option Addr} {sl9 : Array (Option Value)} {oc9 kV9 dc9 pm9 cd9 ct9 : Value}
    {od10 an10 : Option Addr} {sl10 : Array (Option Value)} {oc10 kV10 dc10 pm10 cd10 ct10 : Value}
    {od11 an11 : Option Addr} {sl11 : Array (Option Value)} {oc11 kV11 dc11 pm11 cd11 ct11 : Value}
    {od12 an12 : Option Addr} {sl12 : Array (Option Value)} {oc12 kV12 dc12 pm12 cd12 ct12 : Value}
    {od13 an13 : Option Addr} {sl13 : Array (Option Value)} {oc13 kV13 dc13 pm13 cd13 ct13 : Value}
    {od14 an14 : Option Addr} {sl14 : Array (Option Value)} {oc14 kV14 dc14 pm14 cd14 ct14 : Value}
    {od15 an15 : Option Addr} {sl15 : Array (Option Value)} {oc15 kV15 dc15 pm15 cd15 ct15 : Value}
    {od16 an16 : Option Addr} {sl16 : Array (Option Value)} {oc16 kV16 dc16 pm16 cd16 ct16 : Value}
    {od17 an17 : Option Addr} {sl17 : Array (Option Value)} {oc17 kV17 dc17 pm17 cd17 ct17 : Value}
    {od18 an18 : Option Addr} {sl18 : Array (Option Value)} {oc18 kV18 dc18 pm18 cd18 ct18 : Value}
    {od19 an19 : Option Addr} {sl19 : Array (Option Value)} {oc19 kV19 dc19 pm19 cd19 ct19 : Value}
    (a0 : PySem.W.nsIn K mainGlobals "sign_of" = some (some (.ref f0))) (l0 : K.lookup f0 = some ⟨oc0, od0, .func (PySem.W.fnOf "sign_of" "sign_of" (defArgs s_sign_of) (defBody s_sign_of) (defScope s_sign_of) .none kV0 dc0 pm0 an0 cd0 ct0), sl0⟩) (c0 : PySem.W.codeIn K cd0 "sign_of" = true) (k0 : PySem.W.keepIn K (.ref f0) = true)
    (a1 : PySem.W.nsIn K mainGlobals "line_of" = some (some (.ref f1))) (l1 : K.lookup f1 = some ⟨oc1, od1, .func (PySem.W.fnOf "line_of" "line_of" (defArgs s_line_of) (defBody s_line_of) (defScope s_line_of) .none kV1 dc1 pm1 an1 cd1 ct1), sl1⟩) (c1 : PySem.W.codeIn K cd1 "line_of" = true) (k1 : PySem.W.keepIn K (.ref f1) = true)
    (a2 : PySem.W.nsIn K mainGlobals "side_of" = some (some (.ref f2))) (l2 : K.lookup f2 = some ⟨oc2, od2, .func (PySem.W.fnOf "side_of" "side_of" (defArgs s_side_of) (defBody s_side_of) (defScope s_side_of) .none kV2 dc2 pm2 an2 cd2 ct2), sl2⟩) (c2 : PySem.W.codeIn K cd2 "side_of" = true) (k2 : PySem.W.keepIn K (.ref f2) = true)
    (a3 : PySem.W.nsIn K mainGlobals "turn" = some (some (.ref f3))) (l3 : K.lookup f3 = some ⟨oc3, od3, .func (PySem.W.fnOf "turn" "turn" (defArgs s_turn) (defBody s_turn) (defScope s_turn) .none kV3 dc3 pm3 an3 cd3 ct3), sl3⟩) (c3 : PySem.W.codeIn K cd3 "turn" = true) (k3 : PySem.W.keepIn K (.ref f3) = true)
    (a4 : PySem.W.nsIn K mainGlobals "order_keys" = some (some (.ref f4))) (l4 : K.lookup f4 = some ⟨oc4, od4, .func (PySem.W.fnOf "order_keys" "order_keys" (defArgs s_order_keys) (defBody s_order_keys) (defScope s_order_keys) .none kV4 dc4 pm4 an4 cd4 ct4), sl4⟩) (c4 : PySem.W.codeIn K cd4 "order_keys" = true) (k4 : PySem.W.keepIn K (.ref f4) = true)
    (a5 : PySem.W.nsIn K mainGlobals "in_order" = some (some (.ref f5))) (l5 : K.lookup f5 = some ⟨oc5, od5, .func (PySem.W.fnOf "in_order" "in_order" (defArgs s_in_order) (defBody s_in_order) (defScope s_in_order) .none kV5 dc5 pm5 an5 (.ref cT) ct5), sl5⟩) (c5 : PySem.W.codeIn K (.ref cT) "in_order" = true) (k5 : PySem.W.keepIn K (.ref f5) = true)
    (lT : K.lookup cT = some ⟨tcT, tdT, .fields tvT, tsT⟩) (vT : tvT[11]? = some (.ref pT)) (hT : PySem.W.codeHdIn K cT pT = true) (tT : PySem.W.tabIn K "in_order" = some (cT, pT)) (nT : K.lookup pT = none)
    (a6 : PySem.W.nsIn K mainGlobals "hull" = some (some (.ref f6))) (l6 : K.lookup f6 = some ⟨oc6, od6, .func (PySem.W.fnOf "hull" "hull" (defArgs s_hull) (defBody s_hull) (defScope s_hull) .none kV6 dc6 pm6 an6 cd6 ct6), sl6⟩) (c6 : PySem.W.codeIn K cd6 "hull" = true) (k6 : PySem.W.keepIn K (.ref f6) = true)
    (a7 : PySem.W.nsIn K mainGlobals "half_round" = some (some (.ref f7))) (l7 : K.lookup f7 = some ⟨oc7, od7, .func (PySem.W.fnOf "half_round" "half_round" (defArgs s_half_round) (defBody s_half_round) (defScope s_half_round) .none kV7 dc7 pm7 an7 cd7 ct7), sl7⟩) (c7 : PySem.W.codeIn K cd7 "half_round" = true) (k7 : PySem.W.keepIn K (.ref f7) = true)
    (a8 : PySem.W.nsIn K mainGlobals "_law_cell_at" = some (some (.ref f8))) (l8 : K.lookup f8 = some ⟨oc8, od8, .func (PySem.W.fnOf "_law_cell_at" "_law_cell_at" (defArgs s_law_cell_at) (defBody s_law_cell_at) (defScope s_law_cell_at) .none kV8 dc8 pm8 an8 cd8 ct8), sl8⟩) (c8 : PySem.W.codeIn K cd8 "_law_cell_at" = true) (k8 : PySem.W.keepIn K (.ref f8) = true)
    (a9 : PySem.W.nsIn K mainGlobals "_law_stream" = some (some (.ref f9))) (l9 : K.lookup f9 = some ⟨oc9, od9, .func (PySem.W.fnOf "_law_stream" "_law_stream" (defArgs s_law_stream) (defBody s_law_stream) (defScope s_law_stream) .none kV9 dc9 pm9 an9 cd9 ct9), sl9⟩) (c9 : PySem.W.codeIn K cd9 "_law_stream" = true) (k9 : PySem.W.keepIn K (.ref f9) = true)
    (a10 : PySem.W.nsIn K mainGlobals "_law_divisor" = some (some (.ref f10))) (l10 : K.lookup f10 = some ⟨oc10, od10, .func (PySem.W.fnOf "_law_divisor" "_law_divisor" (defArgs s_law_divisor) (defBody s_law_divisor) (defScope s_law_divisor) .none kV10 dc10 pm10 an10 cd10 ct10), sl10⟩) (c10 : PySem.W.codeIn K cd10 "_law_divisor" = true) (k10 : PySem.W.keepIn K (.ref f10) = true)
    (a11 : PySem.W.nsIn K mainGlobals "_law_lowest" = some (some (.ref f11))) (l11 : K.lookup f11 = some ⟨oc11, od11, .func (PySem.W.fnOf "_law_lowest" "_law_lowest" (defArgs s_law_lowest) (defBody s_law_lowest) (defScope s_law_lowest) .none kV11 dc11 pm11 an11 cd11 ct11), sl11⟩) (c11 : PySem.W.codeIn K cd11 "_law_lowest" = true) (k11 : PySem.W.keepIn K (.ref f11) = true)
    (a12 : PySem.W.nsIn K mainGlobals "_law_point" = some (some (.ref f12))) (l12 : K.lookup f12 = some ⟨oc12, od12, .func (PySem.W.fnOf "_law_point" "_law_point" (defArgs s_law_point) (defBody s_law_point) (defScope s_law_point) .none kV12 dc12 pm12 an12 cd12 ct12), sl12⟩) (c12 : PySem.W.codeIn K cd12 "_law_point" = true) (k12 : PySem.W.keepIn K (.ref f12) = true)
    (a13 : PySem.W.nsIn K mainGlobals "_law_before" = some (some (.ref f13))) (l13 : K.lookup f13 = some ⟨oc13, od13, .func (PySem.W.fnOf "_law_before" "_law_before" (defArgs s_law_before) (defBody s_law_before) (defScope s_law_before) .none kV13 dc13 pm13 an13 cd13 ct13), sl13⟩) (c13 : PySem.W.codeIn K cd13 "_law_before" = true) (k13 : PySem.W.keepIn K (.ref f13) = true)
    (a14 : PySem.W.nsIn K mainGlobals "_law_turn" = some (some (.ref f14))) (l14 : K.lookup f14 = some ⟨oc14, od14, .func (PySem.W.fnOf "_law_turn" "_law_turn" (defArgs s_law_turn) (defBody s_law_turn) (defScope s_law_turn) .none kV14 dc14 pm14 an14 cd14 ct14), sl14⟩) (c14 : PySem.W.codeIn K cd14 "_law_turn" = true) (k14 : PySem.W.keepIn K (.ref f14) = true)
    (a15 : PySem.W.nsIn K mainGlobals "_law_points" = some (some (.ref f15))) (l15 : K.lookup f15 = some ⟨oc15, od15, .func (PySem.W.fnOf "_law_points" "_law_points" (defArgs s_law_points) (defBody s_law_points) (defScope s_law_points) .none kV15 dc15 pm15 an15 cd15 ct15), sl15⟩) (c15 : PySem.W.codeIn K cd15 "_law_points" = true) (k15 : PySem.W.keepIn K (.ref f15) = true)
    (a16 : PySem.W.nsIn K mainGlobals "_law_outermost" = some (some (.ref f16))) (l16 : K.lookup f16 = some ⟨oc16, od16, .func (PySem.W.fnOf "_law_outermost" "_law_outermost" (defArgs s_law_outermost) (defBody s_law_outermost) (defScope s_law_outermost) .none kV16 dc16 pm16 an16 cd16 ct16), sl16⟩) (c16 : PySem.W.codeIn K cd16 "_law_outermost" = true) (k16 : PySem.W.keepIn K (.ref f16) = true)
    (a17 : PySem.W.nsIn K mainGlobals "_law_round" = some (some (.ref f17))) (l17 : K.lookup f17 = some ⟨oc17, od17, .func (PySem.W.fnOf "_law_round" "_law_round" (defArgs s_law_round) (defBody s_law_round) (defScope s_law_round) .none kV17 dc17 pm17 an17 cd17 ct17), sl17⟩) (c17 : PySem.W.codeIn K cd17 "_law_round" = true) (k17 : PySem.W.keepIn K (.ref f17) = true)
    (a18 : PySem.W.nsIn K mainGlobals "_law_right" = some (some (.ref f18))) (l18 : K.lookup f18 = some ⟨oc18, od18, .func (PySem.W.fnOf "_law_right" "_law_right" (defArgs s_law_right) (defBody s_law_right) (defScope s_law_right) .none kV18 dc18 pm18 an18 cd18 ct18), sl18⟩) (c18 : PySem.W.codeIn K cd18 "_law_right" = true) (k18 : PySem.W.keepIn K (.ref f18) = true)
    (a19 : PySem.W.nsIn K mainGlobals "law" = some (some (.ref f19))) (l19 : K.lookup f19 = some ⟨oc19, od19, .func (PySem.W.fnOf "law" "law" (defArgs s_law) (defBody s_law) (defScope s_law) .none kV19 dc19 pm19 an19 cd19 ct19), sl19⟩) (c19 : PySem.W.codeIn K cd19 "law" = true) (k19 : PySem.W.keepIn K (.ref f19) = true)
    (z0 : PySem.W.nsIn K mainGlobals "abs" = some none)
    (z1 : PySem.W.nsIn K mainGlobals "isinstance" = some none)
    (z2 : PySem.W.nsIn K mainGlobals "len" = some none)
    (z3 : PySem.W.nsIn K mainGlobals "list" = some none)
    (z4 : PySem.W.nsIn K mainGlobals "max" = some none)
    (z5 : PySem.W.nsIn K mainGlobals "range" = some none)
    (z6 : PySem.W.nsIn K mainGlobals "reversed" = some none)
    (z7 : PySem.W.nsIn K mainGlobals "set" = some none)
    (z8 : PySem.W.nsIn K mainGlobals "sorted" = some none)
    : ∃ (fd : FuncData) (ts : List Addr), (∀ b, b ∈ ts → K.lookup b = none ∧ ∃ y c, y ∈ ([Str.ofString "in_order"] : List Str) ∧ PySem.W.tabIn K y = some (c, b)) ∧ (∀ (s : Shared) (v : Value), BindsTo s fd ⟨[v], []⟩ [("_law_script", v)]) ∧ ∀ base : Heap, K.In base → base.Ns mainGlobals mg → (∀ b, b ∈ ts → base.BuiltinsAt mg b) → FnOk l.prog w K mg base CX0 6 fa fd ["_law_script"] (sp_lawT K ts) := by
  have e := hfa.symm.trans (PySem.W.mg_of X G a19)
  cases e
  have F0 := fun_mk (st := s_sign_of) l0 c0 k0
  have b0 := F0.binds (ps := ["number"]) fun _ _ _ _ _ _ us hl => match us, hl with | [_], _ => rfl
  have F1 := fun_mk (st := s_line_of) l1 c1 k1
  have b1 := F1.binds (ps := ["P", "Q"]) fun _ _ _ _ _ _ us hl => match us, hl with | [_, _], _ => rfl
  have F2 := fun_mk (st := s_side_of) l2 c2 k2
  have b2 := F2.binds (ps := ["line", "P"]) fun _ _ _ _ _ _ us hl => match us, hl with | [_, _], _ => rfl
  have F3 := fun_mk (st := s_turn) l3 c3 k3
  have b3 := F3.binds (ps := ["P", "Q", "R"]) fun _ _ _ _ _ _ us hl => match us, hl with | [_, _, _], _ => rfl
  have F4 := fun_mk (st := s_order_keys) l4 c4 k4
  have b4 := F4.binds (ps := ["points"]) fun _ _ _ _ _ _ us hl => match us, hl with | [_], _ => rfl
  have F5 := fun_mk (st := s_in_order) l5 c5 k5
  have FC5 : FunC K "in_order" "in_order" s_in_order f5 _ cT pT := ⟨⟨_, _, _, _, _, _, _, _, rfl, l5, c5⟩, hT⟩
  have b5 := F5.binds (ps := ["points"]) fun _ _ _ _ _ _ us hl => match us, hl with | [_], _ => rfl
  have F6 := fun_mk (st := s_hull) l6 c6 k6
  have b6 := F6.binds (ps := ["points"]) fun _ _ _ _ _ _ us hl => match us, hl with | [_], _ => rfl
  have F7 := fun_mk (st := s_half_round) l7 c7 k7
  have b7 := F7.binds (ps := ["ordered"]) fun _ _ _ _ _ _ us hl => match us, hl with | [_], _ => rfl
  have F8 := fun_mk (st := s_law_cell_at) l8 c8 k8
  have b8 := F8.binds (ps := ["_law_script", "_law_k"]) fun _ _ _ _ _ _ us hl => match us, hl with | [_, _], _ => rfl
  have F9 := fun_mk (st := s_law_stream) l9 c9 k9
  have b9 := F9.binds (ps := ["_law_cell", "_law_many"]) fun _ _ _ _ _ _ us hl => match us, hl with | [_, _], _ => rfl
  have F10 := fun_mk (st := s_law_divisor) l10 c10 k10
  have b10 := F10.binds (ps := ["_law_one", "_law_other"]) fun _ _ _ _ _ _ us hl => match us, hl with | [_, _], _ => rfl
  have F11 := fun_mk (st := s_law_lowest) l11 c11 k11
  have b11 := F11.binds (ps := ["_law_x", "_law_y", "_law_w"]) fun _ _ _ _ _ _ us hl => match us, hl with | [_, _, _], _ => rfl
  have F12 := fun_mk (st := s_law_point) l12 c12 k12
  have b12 := F12.binds (ps := ["_law_number", "_law_kind"]) fun _ _ _ _ _ _ us hl => match us, hl with | [_, _], _ => rfl
  have F13 := fun_mk (st := s_law_before) l13 c13 k13
  have b13 := F13.binds (ps := ["_law_one", "_law_other"]) fun _ _ _ _ _ _ us hl => match us, hl with | [_, _], _ => rfl
  have F14 := fun_mk (st := s_law_turn) l14 c14 k14
  have b14 := F14.binds (ps := ["_law_a", "_law_b", "_law_c"]) fun _ _ _ _ _ _ us hl => match us, hl with | [_, _, _], _ => rfl
  have F15 := fun_mk (st := s_law_points) l15 c15 k15
  have b15 := F15.binds (ps := ["_law_script"]) fun _ _ _ _ _ _ us hl => match us, hl with | [_], _ => rfl
  have F16 := fun_mk (st := s_law_outermost) l16 c16 k16
  have b16 := F16.binds (ps := ["_law_spots"]) fun _ _ _ _ _ _ us hl => match us, hl with | [_], _ => rfl
  have F17 := fun_mk (st := s_law_round) l17 c17 k17
  have b17 := F17.binds (ps := ["_law_found", "_law_spots"]) fun _ _ _ _ _ _ us hl => match us, hl with | [_, _], _ => rfl
  have F18 := fun_mk (st := s_law_right) l18 c18 k18
  have b18 := F18.binds (ps := ["_law_found", "_law_spots"]) fun _ _ _ _ _ _ us hl => match us, hl with | [_, _], _ => rfl
  have F19 := fun_mk (st := s_law) l19 c19 k19
  have b19 := F19.binds (ps := ["_law_script"]) fun _ _ _ _ _ _ us hl => match us, hl with | [_], _ => rfl
  have T : Txt K mg (fun n => [f0, f1, f2, f3, f4, f5, f6, f7, f8, f9, f10, f11, f12, f13, f14, f15, f16, f17, f18, fa, cT, pT].getD n 0) (fun n => [PySem.W.fnOf "sign_of" "sign_of" (defArgs s_sign_of) (defBody s_sign_of) (defScope s_sign_of) .none kV0 dc0 pm0 an0 cd0 ct0, PySem.W.fnOf "line_of" "line_of" (defArgs s_line_of) (defBody s_line_of) (defScope s_line_of) .none kV1 dc1 pm1 an1 cd1 ct1, PySem.W.fnOf "side_of" "side_of" (defArgs s_side_of) (defBody s_side_of) (defScope s_side_of) .none kV2 dc2 pm2 an2 cd2 ct2, PySem.W.fnOf "turn" "turn" (defArgs s_turn) (defBody s_turn) (defScope s_turn) .none kV3 dc3 pm3 an3 cd3 ct3, PySem.W.fnOf "order_keys" "order_keys" (defArgs s_order_keys) (defBody s_order_keys) (defScope s_order_keys) .none kV4 dc4 pm4 an4 cd4 ct4, PySem.W.fnOf "in_order" "in_order" (defArgs s_in_order) (defBody s_in_order) (defScope s_in_order) .none kV5 dc5 pm5 an5 (.ref cT) ct5, PySem.W.fnOf "hull" "hull" (defArgs s_hull) (defBody s_hull) (defScope s_hull) .none kV6 dc6 pm6 an6 cd6 ct6, PySem.W.fnOf "half_round" "half_round" (defArgs s_half_round) (defBody s_half_round) (defScope s_half_round) .none kV7 dc7 pm7 an7 cd7 ct7, PySem.W.fnOf "_law_cell_at" "_law_cell_at" (defArgs s_law_cell_at) (defBody s_law_cell_at) (defScope s_law_cell_at) .none kV8 dc8 pm8 an8 cd8 ct8, PySem.W.fnOf "_law_stream" "_law_stream" (defArgs s_law_stream) (defBody s_law_stream) (defScope s_law_stream) .none kV9 dc9 pm9 an9 cd9 ct9, PySem.W.fnOf "_law_divisor" "_law_divisor" (defArgs s_law_divisor) (defBody s_law_divisor) (defScope s_law_divisor) .none kV10 dc10 pm10 an10 cd10 ct10, PySem.W.fnOf "_law_lowest" "_law_lowest" (defArgs s_law_lowest) (defBody s_law_lowest) (defScope s_law_lowest) .none kV11 dc11 pm11 an11 cd11 ct11, PySem.W.fnOf "_law_point" "_law_point" (defArgs s_law_point) (defBody s_law_point) (defScope s_law_point) .none kV12 dc12 pm12 an12 cd12 ct12, PySem.W.fnOf "_law_before" "_law_before" (defArgs s_law_before) (defBody s_law_before) (defScope s_law_before) .none kV13 dc13 pm13 an13 cd13 ct13, PySem.W.fnOf "_law_turn" "_law_turn" (defArgs s_law_turn) (defBody s_law_turn) (defScope s_law_turn) .none kV14 dc14 pm14 an14 cd14 ct14, PySem.W.fnOf "_law_points" "_law_points" (defArgs s_law_points) (defBody s_law_points) (defScope s_law_points) .none kV15 dc15 pm15 an15 cd15 ct15, PySem.W.fnOf "_law_outermost" "_law_outermost" (defArgs s_law_outermost) (defBody s_law_outermost) (defScope s_law_outermost) .none kV16 dc16 pm16 an16 cd16 ct16, PySem.W.fnOf "_law_round" "_law_round" (defArgs s_law_round) (defBody s_law_round) (defScope s_law_round) .none kV17 dc17 pm17 an17 cd17 ct17, PySem.W.fnOf "_law_right" "_law_right" (defArgs s_law_right) (defBody s_law_right) (defScope s_law_right) .none kV18 dc18 pm18 an18 cd18 ct18, PySem.W.fnOf "law" "law" (defArgs s_law) (defBody s_law) (defScope s_law) .none kV19 dc19 pm19 an19 cd19 ct19].getD n (PySem.W.fnOf "sign_of" "sign_of" (defArgs s_sign_of) (defBody s_sign_of) (defScope s_sign_of) .none kV0 dc0 pm0 an0 cd0 ct0)) :=
    ⟨⟨F0, b0, PySem.W.mg_of X G a0⟩, ⟨F1, b1, PySem.W.mg_of X G a1⟩, ⟨F2, b2, PySem.W.mg_of X G a2⟩, ⟨F3, b3, PySem.W.mg_of X G a3⟩, ⟨F4, b4, PySem.W.mg_of X G a4⟩, ⟨F5, b5, PySem.W.mg_of X G a5⟩, FC5, ⟨F6, b6, PySem.W.mg_of X G a6⟩, ⟨F7, b7, PySem.W.mg_of X G a7⟩, ⟨F8, b8, PySem.W.mg_of X G a8⟩, ⟨F9, b9, PySem.W.mg_of X G a9⟩, ⟨F10, b10, PySem.W.mg_of X G a10⟩, ⟨F11, b11, PySem.W.mg_of X G a11⟩, ⟨F12, b12, PySem.W.mg_of X G a12⟩, ⟨F13, b13, PySem.W.mg_of X G a13⟩, ⟨F14, b14, PySem.W.mg_of X G a14⟩, ⟨F15, b15, PySem.W.mg_of X G a15⟩, ⟨F16, b16, PySem.W.mg_of X G a16⟩, ⟨F17, b17, PySem.W.mg_of X G a17⟩, ⟨F18, b18, PySem.W.mg_of X G a18⟩, ⟨F19, b19, PySem.W.mg_of X G a19⟩, PySem.W.mg_none_of X G z0, PySem.W.mg_none_of X G z1, PySem.W.mg_none_of X G z2, PySem.W.mg_none_of X G z3, PySem.W.mg_none_of X G z4, PySem.W.mg_none_of X G z5, PySem.W.mg_none_of X G z6, PySem.W.mg_none_of X G z7, PySem.W.mg_none_of X G z8⟩
  exact ⟨PySem.W.fnOf "law" "law" (defArgs s_law) (defBody s_law) (defScope s_law) .none kV19 dc19 pm19 an19 cd19 ct19, [pT], fun b hb => by rw [List.mem_singleton.mp hb]; exact ⟨nT, _, cT, List.mem_singleton.mpr rfl, tT⟩, fun s v => .of_eq rfl, fun base hK _ hB => ok_law T hK (hB _ (List.mem_singleton.mpr rfl))⟩
theorem walk {l : PySem.W.OpenLaw} {q : Program} {loose : List Str} {XP : (Str → Option Value) → Heap → Prop} {YP : World → Heap → Prop} {d : DefRec} {K : Params → PySem.W.Frag} (hn : l.most = some 63) (hdf : d.params.defaults = [])
    (hY : ∀ (w : World) (h : Heap), YP w h → (K w.params).In h) (hD : ∀ y, y ∈ ([Str.ofString "in_order"] : List Str) → ∃ e, (PyProof.Rows.recsOf q).find? (fun e => e.name == y) = some e)
    (F : ∀ (w : World) (mg : Str → Option Value) (fa : Addr) (h : Heap), (K w.params).In h → h.Ns mainGlobals mg → mg d.name = some (.ref fa) →
      ∃ (fd : FuncData) (ts : List Addr), (∀ b, b ∈ ts → (K w.params).lookup b = none ∧ ∃ y c, y ∈ ([Str.ofString "in_order"] : List Str) ∧ PySem.W.tabIn (K w.params) y = some (c, b)) ∧ (∀ (s : Shared) (u : Value), BindsTo s fd ⟨[u], []⟩ [("_law_script", u)]) ∧ ∀ base : Heap, (K w.params).In base → base.Ns mainGlobals mg → (∀ b, b ∈ ts → base.BuiltinsAt mg b) → FnOk l.prog w (K w.params) mg base CX0 6 fa fd ["_law_script"] (sp_lawT (K w.params) ts)) :
    PySem.W.WalkO q loose XP YP l.row.toRowW d [] (fun f vs => PySem.call f vs) :=
  L2.walk_ofT (n := 63) (k := 6) (x := "_law_script") (CX := fun _ => CX0) (sp := fun w ts => sp_lawT (K w.params) ts) (ds := [Str.ofString "in_order"]) hn (by decide) hdf ⟨rfl, by decide, by decide⟩ hY hD F (fun _ _ a ns ts hl hO hS => ⟨a, ns, rfl, hS, hl, fun b hb => lamTab_new (hO.tabs b hb), fun _ => rfl⟩) fun _ _ _ _ _ z => z
end Mine
open PySem PySem.W PyProof.Rows
set_option maxRecDepth 100000 in
set_option maxHeartbeats 0 in
theorem PySem.Challenge.cw_acre_k57_hulls_holds : PySem.Challenge.rw_acre_k57_hulls.Holds := by
  w_on; o_law; k_head; (case hw => w_witness2)
  k_fill
  refine Mine.walk (l := PySem.Challenge.rw_acre_k57_hulls) rfl rfl (fun w h Y => PySem.W.km_in_of Y) (fun y hy => by rw [List.mem_singleton.mp hy]; exact ⟨_, rfl⟩) ?F
  case F =>
    intro w mg fa h KX G hmg
    refine' Mine.all_mk KX G hmg ?a0 ?l0 ?c0 ?k0 ?a1 ?l1 ?c1 ?k1 ?a2 ?l2 ?c2 ?k2 ?a3 ?l3 ?c3 ?k3 ?a4 ?l4 ?c4 ?k4 ?a5 ?l5 ?c5 ?k5 ?lT ?vT ?hT ?tT ?nT ?a6 ?l6 ?c6 ?k6 ?a7 ?l7 ?c7 ?k7 ?a8 ?l8 ?c8 ?k8 ?a9 ?l9 ?c9 ?k9 ?a10 ?l10 ?c10 ?k10 ?a11 ?l11 ?c11 ?k11 ?a12 ?l12 ?c12 ?k12 ?a13 ?l13 ?c13 ?k13 ?a14 ?l14 ?c14 ?k14 ?a15 ?l15 ?c15 ?k15 ?a16 ?l16 ?c16 ?k16 ?a17 ?l17 ?c17 ?k17 ?a18 ?l18 ?c18 ?k18 ?a19 ?l19 ?c19 ?k19 ?z0 ?z1 ?z2 ?z3 ?z4 ?z5 ?z6 ?z7 ?z8
    (case a0 => k_is)
    (case l0 => k_is)
    (case c0 => k_is)
    (case k0 => k_is)
    (case a1 => k_is)
    (case l1 => k_is)
    (case c1 => k_is)
    (case k1 => k_is)
    (case a2 => k_is)
    (case l2 => k_is)
    (case c2 => k_is)
    (case k2 => k_is)
    (case a3 => k_is)
    (case l3 => k_is)
    (case c3 => k_is)
    (case k3 => k_is)
    (case a4 => k_is)
    (case l4 => k_is)
    (case c4 => k_is)
    (case k4 => k_is)
    (case a5 => k_is)
    (case l5 => k_is)
    (case c5 => k_is)
    (case k5 => k_is)
    (case lT => k_is)
    (case vT => rfl)
    (case hT => kernel_rfl)
    (case tT => kernel_rfl)
    (case nT => kernel_rfl)
    (case a6 => k_is)
    (case l6 => k_is)
    (case c6 => k_is)
    (case k6 => k_is)
    (case a7 => k_is)
    (case l7 => k_is)
    (case c7 => k_is)
    (case k7 => k_is)
    (case a8 => k_is)
    (case l8 => k_is)
    (case c8 => k_is)
    (case k8 => k_is)
    (case a9 => k_is)
    (case l9 => k_is)
    (case c9 => k_is)
    (case k9 => k_is)
    (case a10 => k_is)
    (case l10 => k_is)
    (case c10 => k_is)
    (case k10 => k_is)
    (case a11 => k_is)
    (case l11 => k_is)
    (case c11 => k_is)
    (case k11 => k_is)
    (case a12 => k_is)
    (case l12 => k_is)
    (case c12 => k_is)
    (case k12 => k_is)
    (case a13 => k_is)
    (case l13 => k_is)
    (case c13 => k_is)
    (case k13 => k_is)
    (case a14 => k_is)
    (case l14 => k_is)
    (case c14 => k_is)
    (case k14 => k_is)
    (case a15 => k_is)
    (case l15 => k_is)
    (case c15 => k_is)
    (case k15 => k_is)
    (case a16 => k_is)
    (case l16 => k_is)
    (case c16 => k_is)
    (case k16 => k_is)
    (case a17 => k_is)
    (case l17 => k_is)
    (case c17 => k_is)
    (case k17 => k_is)
    (case a18 => k_is)
    (case l18 => k_is)
    (case c18 => k_is)
    (case k18 => k_is)
    (case a19 => k_is)
    (case l19 => k_is)
    (case c19 => k_is)
    (case k19 => k_is)
    (case z0 => k_is)
    (case z1 => k_is)
    (case z2 => k_is)
    (case z3 => k_is)
    (case z4 => k_is)
    (case z5 => k_is)
    (case z6 => k_is)
    (case z7 => k_is)
    (case z8 => k_is)
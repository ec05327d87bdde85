import PyProof.Rows.All
import Wide.All
import OpenK.AllK
import Wide.FinOn
import Lean
import PyProof.EqAt
import PyProof.EqKinds
import PyProof.TupleCall
import PySem.Challenge.RW_acre_k23_fences_of_rows
set_option Elab.async false
set_option linter.all false
set_option maxRecDepth 100000
namespace L2
open PySem PySem.Spec PyProof.Rows
abbrev Key := Sum Int Str
def keyIs : Key → Value → Bool
  | .inl k, v => Value.isInt k v
  | .inr x, v => Value.isStrOf x v
def keyH (w : World) : Key → Int
  | .inl k => hashInt k
  | .inr x => hashStr w x
theorem keyIs_shape : ∀ {k : Key} {v : Value}, keyIs k v = true → (∃ i t, k = Sum.inl i ∧ v = Value.int i t) ∨ (∃ x t, k = Sum.inr x ∧ v = Value.str x t)
  | .inl i, v, h => by
    obtain ⟨t, e⟩ := Value.isInt_shape (k := i) (v := v) h
    exact .inl ⟨i, t, rfl, e⟩
  | .inr x, v, h => by
    obtain ⟨t, e⟩ := Value.isStrOf_shape (x := x) (v := v) h
    exact .inr ⟨x, t, rfl, e⟩
theorem keyIs_int (i : Int) (t : Tok) : keyIs (.inl i) (.int i t) = true := by simp [keyIs, Value.isInt]
theorem keyIs_str (x : Str) (t : Tok) : keyIs (.inr x) (.str x t) = true := by simp [keyIs, Value.isStrOf]
theorem key_ll (a b : Int) : decide ((Sum.inl a : Key) = Sum.inl b) = (a == b) := by
  by_cases e : a = b
  · subst e; simp
  · have h : ¬ (Sum.inl a : Key) = Sum.inl b := fun q => e (Sum.inl.inj q)
    rw [decide_eq_false h]
    exact (beq_eq_false_iff_ne.mpr e).symm
theorem key_rr (a b : Str) : decide ((Sum.inr a : Key) = Sum.inr b) = decide (a = b) := by
  by_cases e : a = b
  · subst e; simp
  · have h : ¬ (Sum.inr a : Key) = Sum.inr b := fun q => e (Sum.inr.inj q)
    rw [decide_eq_false h, decide_eq_false e]
theorem key_lr (a : Int) (b : Str) : decide ((Sum.inl a : Key) = Sum.inr b) = false := decide_eq_false (fun q => nomatch q)
theorem key_rl (a : Str) (b : Int) : decide ((Sum.inr a : Key) = Sum.inl b) = false := decide_eq_false (fun q => nomatch q)
def mixKind (prog : Program) (w : World) : PySem.KeyKind prog w Key where
  is := keyIs
  hash := keyH w
  inj := fun v a b ha hb => by
    rcases keyIs_shape ha with ⟨i, t, rfl, rfl⟩ | ⟨x, t, rfl, rfl⟩
    · rcases keyIs_shape hb with ⟨j, u, rfl, e⟩ | ⟨y, u, rfl, e⟩
      · injection e with e1 _; rw [e1]
      · exact nomatch e
    · rcases keyIs_shape hb with ⟨j, u, rfl, e⟩ | ⟨y, u, rfl, e⟩
      · exact nomatch e
      · injection e with e1 _; rw [e1]
  byValue := fun k v h => by
    rcases keyIs_shape h with ⟨i, t, rfl, rfl⟩ | ⟨x, t, rfl, rfl⟩ <;> rfl
  pyHash := fun hv h => by
    rcases keyIs_shape hv with ⟨i, t, rfl, rfl⟩ | ⟨x, t, rfl, rfl⟩
    · exact wpAny_pyHash_int h
    · exact wpAny_pyHash_str h
  eqBool := fun hu hv h => by
    rcases keyIs_shape hu with ⟨i, t, rfl, rfl⟩ | ⟨x, t, rfl, rfl⟩
    · rcases keyIs_shape hv with ⟨j, u, rfl, rfl⟩ | ⟨y, u, rfl, rfl⟩
      · rw [key_ll] at h; exact wpAny_eqBool_int h
      · rw [key_lr] at h; exact SeqAt.EqAt.int_str i t y u _ _ _ _ h
    · rcases keyIs_shape hv with ⟨j, u, rfl, rfl⟩ | ⟨y, u, rfl, rfl⟩
      · rw [key_rl] at h; exact SeqAt.EqAt.str_int x t j u _ _ _ _ h
      · rw [key_rr] at h; exact wpAny_eqBool_str h
  «strs» := fun k x t v h => by
    rcases keyIs_shape h with ⟨i, u, rfl, e⟩ | ⟨y, u, rfl, e⟩
    · exact nomatch e
    · injection e with e1 _
      subst e1
      cases v <;> rfl
theorem mixKind_int (prog : Program) (w : World) (i : Int) (t : Tok) : (mixKind prog w).is (.inl i) (.int i t) = true := keyIs_int i t
theorem mixKind_str (prog : Program) (w : World) (x : Str) (t : Tok) : (mixKind prog w).is (.inr x) (.str x t) = true := keyIs_str x t
end L2
namespace L2
open PySem PySem.Spec PyProof.Rows
inductive V where
  | non | bl (b : Bool) | int (i : Int) | str (x : Str) | byt (b : Array UInt8) | flt (b : UInt64) | ref (a : Addr) | ty (n : String)
  deriving DecidableEq
def RelV : V → Value → Prop
  | .non, u => u = Value.none
  | .bl b, u => u = Value.bool b
  | .int i, u => ∃ t, u = Value.int i t
  | .str x, u => ∃ t, u = Value.str x t
  | .byt b, u => ∃ t, u = Value.bytes b t
  | .flt b, u => ∃ t, u = Value.float b t
  | .ref a, u => u = Value.ref a
  | .ty n, u => u = Value.type n
abbrev Vals : List V → List Value → Prop := Paired RelV
theorem Vals.length {xs : List V} {us : List Value} (r : Vals xs us) : xs.length = us.length := Paired.length r
theorem Vals.get : ∀ {xs : List V} {us : List Value} {i : Nat} {x : V}, Vals xs us → xs[i]? = some x → ∃ u, us[i]? = some u ∧ RelV x u
  | _, _, _, _, .nil, e => by simp at e
  | _, _, 0, _, .cons r _, e => by simp at e; subst e; exact ⟨_, rfl, r⟩
  | _, _, i + 1, x, .cons _ t, e => by
    obtain ⟨u, h1, h2⟩ := Vals.get (i := i) (x := x) t (by simpa using e)
    exact ⟨u, by simpa using h1, h2⟩
theorem Vals.set {x : V} {u : Value} (r : RelV x u) : ∀ {xs : List V} {us : List Value} (i : Nat), Vals xs us → Vals (xs.set i x) (us.set i u)
  | _, _, _, .nil => .nil
  | _, _, 0, .cons _ t => .cons r t
  | _, _, i + 1, .cons q t => .cons q (Vals.set r i t)
theorem Vals.append : ∀ {xs ys : List V} {us ws : List Value}, Vals xs us → Vals ys ws → Vals (xs ++ ys) (us ++ ws)
  | _, _, _, _, .nil, s => s
  | _, _, _, _, .cons r t, s => .cons r (Vals.append t s)
theorem Vals.take : ∀ {xs : List V} {us : List Value} (n : Nat), Vals xs us → Vals (xs.take n) (us.take n)
  | _, _, 0, _ => .nil
  | _, _, _ + 1, .nil => .nil
  | _, _, n + 1, .cons r t => .cons r (Vals.take n t)
theorem Vals.drop : ∀ {xs : List V} {us : List Value} (n : Nat), Vals xs us → Vals (xs.drop n) (us.drop n)
  | _, _, 0, r => r
  | _, _, _ + 1, .nil => .nil
  | _, _, n + 1, .cons _ t => Vals.drop n t
def RelO : Option V → Option Value → Prop
  | some v, some u => RelV v u
  | none, none => True
  | _, _ => False
def KV {κ : Type} : List (κ × V) → List (κ × Value) → Prop := Paired fun (p : κ × V) (q : κ × Value) => p.1 = q.1 ∧ RelV p.2 q.2
def kV : Key → V
  | .inl i => .int i
  | .inr x => .str x
inductive HO where
  /-- a list -/
  | lst (xs : List V)
  /-- a tuple (never changes) -/
  | tup (xs : List V)
  /-- a dict whose keys are ints and texts; one whose keys are tuples of ints and texts (the empty one is both) -/
  | dK (kvs : List (Key × V)) | dT (kvs : List (List Key × V))
  /-- a set of ints: its members, its size -/
  | set (S : Int → Bool) (n : Nat)
  /-- an instance of the class at C, its dict at dx, its attributes -/
  | ins (C dx : Addr) (fs : List (Str × V))
  /-- the dict of the instance at x -/
  | own (x : Addr)
  /-- the dict of an exception -/
  | xd (fs : List (Str × V))
  /-- a bound method, f of x -/
  | met (f x : Addr)
  /-- a range object lo, lo + 1, .. below hi -/
  | rng (lo hi : Int)
  /-- a thing that is known to the object (the script; a dict while a loop walks it): read, never written while it is so -/
  | frz (o : Obj) (u : HO)
  /-- a code object's table -/
  | tbl (ps : Array Value)
  /-- any other thing, by what is true of its one object (a def of one's own: SetO a S n := HO.ext fun h => ..) -/
  | ext (φ : Heap → Prop)
abbrev Hp := Addr → Option HO
def upd (H : Hp) (a : Addr) (o : HO) : Hp := fun b => if b = a then some o else H b
theorem upd_same {H : Hp} {a : Addr} {o : HO} : upd H a o a = some o := by unfold upd; rw [if_pos rfl]
theorem upd_ne {H : Hp} {a b : Addr} {o : HO} (h : b ≠ a) : upd H a o b = H b := by unfold upd; rw [if_neg h]
theorem upd_upd {H : Hp} {a : Addr} {o u : HO} : upd (upd H a o) a u = upd H a u := by
  funext b; unfold upd; split <;> rfl
theorem ne_of {H : Hp} {a b : Addr} {o u : HO} (h : H a = some o) (h' : H b = some u) (d : o ≠ u) : a ≠ b := by
  intro e; subst e; rw [h] at h'; exact d (Option.some.inj h')
theorem ne_of_none {H : Hp} {a b : Addr} {o : HO} (h : H a = some o) (h' : H b = none) : a ≠ b := by
  intro e; subst e; rw [h] at h'; cases h'
section
variable (P : Program) (w : World)
def ObjOk (H : Hp) (h : Heap) (a : Addr) : HO → Prop
  | .lst xs => xs.length ≤ sizeLine ∧ ∃ (its : List Value) (n : Nat), Vals xs its ∧ h.get? a = some { cls := .type "list", data := .seq its.toArray n }
  | .tup xs => xs.length ≤ sizeLine ∧ ∃ its : List Value, Vals xs its ∧ IsTup h a its.toArray
  | .dK kvs => kvs.length ≤ sizeLine ∧ (a == sysModules) = false ∧ ∃ vs, KV kvs vs ∧ h.DictOf (mixKind P w) a vs
  | .dT kvs => kvs.length ≤ sizeLine ∧ (a == sysModules) = false ∧ ∃ xs : List (List Key × Addr × Value),
      Paired (fun (p : List Key × V) (q : List Key × Addr × Value) => p.1 = q.1 ∧ H q.2.1 = some (.tup (p.1.map kV)) ∧ RelV p.2 q.2.2) kvs xs ∧
      ∃ o es ep, h.get? a = some o ∧ o.ExactDict ∧ o.data = .dict es ep ∧ es.toList = xs.map (entryOfKey (tupleKind (mixKind P w))) ∧ (xs.map (·.1)).Nodup
  | .set S n => h.SetOf (intKind P w) a S n
  | .ins C dx fs => H dx = some (.own a) ∧ fs.length ≤ 1000 ∧ dx ≠ a ∧ h.get? a = some (PySem.W.instObj C dx) ∧
      ∃ mA, h.Ns1 dx mA ∧ (∀ f, RelO (fs.lookup f) (mA f)) ∧ PySem.Within mA (fs.map (·.1))
  | .own _ => ∃ o, h.get? a = some o
  | .xd fs => ∃ mA, h.Ns1 a mA ∧ ∀ f, RelO (fs.lookup f) (mA f)
  | .rng lo hi => ∃ t u v, h.get? a = some { cls := .type "range", data := .fields #[.int lo t, .int hi u, .int 1 v] }
  | .frz o u => h.get? a = some o ∧ ObjOk H h a u
  | .tbl ps => h.get? a = some { cls := .none, data := .fields ps }
  | .met f x => h.get? a = some (PySem.W.methodObj (.ref f) (.ref x))
  | .ext φ => φ h ∧ (∃ o, h.get? a = some o) ∧ ∀ h1 h2 : Heap, φ h1 → (∀ o, h1.get? a = some o → h2.get? a = some o) → φ h2
def HOk (H : Hp) (h : Heap) : Prop := ∀ a o, H a = some o → ObjOk P w H h a o
end
section
variable {P : Program} {w : World} {H H' : Hp} {h h' : Heap} {a : Addr} {o : HO}
theorem ObjOk.lt (x : ObjOk P w H h a o) : a < h.objs.size := by
  cases o with
  | lst xs => obtain ⟨_, _, _, _, e⟩ := x; exact Heap.lt_size e
  | tup xs => obtain ⟨_, _, _, p⟩ := x; exact p.lt
  | dK kvs => obtain ⟨_, _, _, _, o, _, _, e, _⟩ := x; exact Heap.lt_size e
  | dT kvs => obtain ⟨_, _, _, _, o, _, _, e, _⟩ := x; exact Heap.lt_size e
  | set S n => obtain ⟨o, _, _, _, e, _⟩ := x; exact Heap.lt_size e
  | ins C dx fs => obtain ⟨_, _, _, e, _⟩ := x; exact Heap.lt_size e
  | own y => obtain ⟨_, e⟩ := x; exact Heap.lt_size e
  | xd fs => obtain ⟨_, ⟨_, _, _, e, _⟩, _⟩ := x; exact Heap.lt_size e
  | rng lo hi => obtain ⟨_, _, _, e⟩ := x; exact Heap.lt_size e
  | frz ob u => obtain ⟨e, _⟩ := x; exact Heap.lt_size e
  | tbl ps => exact Heap.lt_size (show h.get? a = some _ from x)
  | met f y => exact Heap.lt_size (show h.get? a = some _ from x)
  | ext φ => obtain ⟨_, ⟨_, e⟩, _⟩ := x; exact Heap.lt_size e
theorem Paired.mapP {α β : Type} {F G : α → β → Prop} : ∀ {l₁ : List α} {l₂ : List β}, Paired F l₁ l₂ → (∀ a b, F a b → G a b) → Paired G l₁ l₂
  | _, _, .nil, _ => .nil
  | _, _, .cons r t, f => .cons (f _ _ r) (Paired.mapP t f)
theorem ObjOk.stay (x : ObjOk P w H h a o) (k : ∀ b u, (b = a ∨ H b = some (.own a)) → h.get? b = some u → h'.get? b = some u)
    (ho : ∀ b, H b = some (.own a) → H' b = some (.own a)) (ht : ∀ b xs, H b = some (.tup xs) → H' b = some (.tup xs)) : ObjOk P w H' h' a o := by
  induction o with
  | lst xs => obtain ⟨z, its, n, r, e⟩ := x; exact ⟨z, its, n, r, k _ _ (.inl rfl) e⟩
  | tup xs => obtain ⟨z, its, r, ob, e, c⟩ := x; exact ⟨z, its, r, ob, k _ _ (.inl rfl) e, c⟩
  | dK kvs => obtain ⟨z, y, vs, r, ob, es, ep, e, c⟩ := x; exact ⟨z, y, vs, r, ob, es, ep, k _ _ (.inl rfl) e, c⟩
  | dT kvs =>
    obtain ⟨z, y, xs, r, ob, es, ep, e, c⟩ := x
    exact ⟨z, y, xs, Paired.mapP r fun p q z => ⟨z.1, ht _ _ z.2.1, z.2.2⟩, ob, es, ep, k _ _ (.inl rfl) e, c⟩
  | set S n => obtain ⟨ob, es, ep, t, e, c⟩ := x; exact ⟨ob, es, ep, t, k _ _ (.inl rfl) e, c⟩
  | ins C dx fs =>
    obtain ⟨d, z, ne, e, mA, ⟨od, es, ep, e2, c⟩, r⟩ := x
    exact ⟨ho _ d, z, ne, k _ _ (.inl rfl) e, mA, ⟨od, es, ep, k _ _ (.inr d) e2, c⟩, r⟩
  | own y => obtain ⟨ob, e⟩ := x; exact ⟨ob, k _ _ (.inl rfl) e⟩
  | xd fs => obtain ⟨mA, ⟨od, es, ep, e, c⟩, r⟩ := x; exact ⟨mA, ⟨od, es, ep, k _ _ (.inl rfl) e, c⟩, r⟩
  | rng lo hi => obtain ⟨t, u, v, e⟩ := x; exact ⟨t, u, v, k _ _ (.inl rfl) e⟩
  | frz ob u ih => obtain ⟨e, q⟩ := x; exact ⟨k _ _ (.inl rfl) e, ih q⟩
  | tbl ps =>
    have e : h.get? a = some { cls := .none, data := .fields ps } := x
    show h'.get? a = some { cls := .none, data := .fields ps }
    exact k a _ (.inl rfl) e
  | met f y =>
    have e : h.get? a = some (PySem.W.methodObj (.ref f) (.ref y)) := x
    show h'.get? a = some (PySem.W.methodObj (.ref f) (.ref y))
    exact k a _ (.inl rfl) e
  | ext φ => obtain ⟨p, ⟨o, e⟩, st⟩ := x; exact ⟨st _ _ p fun o q => k _ _ (.inl rfl) q, ⟨o, k _ _ (.inl rfl) e⟩, st⟩
theorem HOk.lt (x : HOk P w H h) (e : H a = some o) : a < h.objs.size := (x a o e).lt
theorem HOk.fresh (x : HOk P w H h) (e : h.objs.size ≤ a) : H a = none := by
  cases q : H a with
  | none => rfl
  | some u => exact absurd (Nat.lt_of_lt_of_le (x.lt q) e) (Nat.lt_irrefl _)
theorem HOk.kept (x : HOk P w H h) (k : ∀ b u, h.get? b = some u → h'.get? b = some u) : HOk P w H h' := fun a o e =>
  (x a o e).stay (fun b u _ q => k b u q) (fun _ q => q) fun _ _ q => q
theorem HOk.laid (x : HOk P w H h) (k : ∀ b u, h.get? b = some u → h'.get? b = some u) (hp : h.objs.size ≤ a) (new : ObjOk P w (upd H a o) h' a o) : HOk P w (upd H a o) h' := fun b u e => by
  have hn := x.fresh hp
  by_cases hb : b = a
  · subst hb; rw [upd_same] at e; cases e; exact new
  · rw [upd_ne hb] at e
    exact (x b u e).stay (fun c v _ q => k c v q) (fun c q => by rw [upd_ne (ne_of_none q hn)]; exact q) fun c xs q => by rw [upd_ne (ne_of_none q hn)]; exact q
end
def Rd (H : Hp) (a : Addr) (u : HO) : Prop := H a = some u ∨ ∃ o, H a = some (.frz o u)
theorem Rd.of {H : Hp} {a : Addr} {u : HO} (h : H a = some u) : Rd H a u := .inl h
theorem Rd.ok {P : Program} {w : World} {H : Hp} {h : Heap} {a : Addr} {u : HO} (r : Rd H a u) (x : HOk P w H h) : ObjOk P w H h a u := by
  rcases r with r | ⟨o, r⟩
  · exact x a u r
  · obtain ⟨_, q⟩ := x a _ r
    exact q
def Mut : Option HO → Prop
  | some (.lst _) => True
  | some (.dK _) => True
  | some (.dT _) => True
  | some (.set _ _) => True
  | some (.ins _ _ _) => True
  | some (.ext _) => True
  | _ => False
section
variable {P : Program} {w : World} {H : Hp} {h h' : Heap} {x e : Addr} {o' : HO}
theorem HOk.write (ok : HOk P w H h) (mu : Mut (H x)) (he : e = x ∨ H e = some (.own x)) (k : ∀ b u, b ≠ e → h.get? b = some u → h'.get? b = some u) (heo : ∃ u, h'.get? e = some u)
    (new : ObjOk P w (upd H x o') h' x o') : HOk P w (upd H x o') h' := fun b u q => by
  have nown : ∀ c y, H c = some (.own y) → c ≠ x := fun c y r z => by subst z; rw [r] at mu; exact mu
  have ntup : ∀ c xs, H c = some (.tup xs) → c ≠ x := fun c xs r z => by subst z; rw [r] at mu; exact mu
  by_cases hb : b = x
  · subst hb; rw [upd_same] at q; cases q; exact new
  · rw [upd_ne hb] at q
    by_cases hbe : b = e
    · have q' : H b = some (.own x) := by
        rcases he with z | z
        · exact absurd (hbe.trans z) hb
        · rw [hbe]; exact z
      rw [q] at q'; cases q'
      obtain ⟨v, hv⟩ := heo
      exact ⟨v, by rw [hbe]; exact hv⟩
    · refine (ok b u q).stay (fun c v hc r => k c v ?_ r) (fun c r => by rw [upd_ne (nown c b r)]; exact r) fun c xs r => by rw [upd_ne (ntup c xs r)]; exact r
      rcases hc with rfl | hc
      · exact hbe
      · rintro rfl
        rcases he with z | z
        · exact nown c b hc z
        · rw [hc] at z; cases z; exact hb rfl
end
structure Un (fs ex : List Addr) (H H' : Hp) (h h' : Heap) : Prop where
  keep : ∀ b o, h.get? b = some o → H b = none → b ∉ fs → b ∉ ex → h'.get? b = some o
  slot : ∀ b o, h.get? b = some o → H b = none → b ∈ fs → b ∉ ex → ∃ sl, h'.get? b = some { o with slots := sl }
  free : ∀ b o, h.get? b = some o → H b = none → b ∉ ex → H' b = none
  there : ∀ b o, h.get? b = some o → b ∉ ex → ∃ o', h'.get? b = some o'
  tups : ∀ b xs, H b = some (.tup xs) → H' b = some (.tup xs)
  frzs : ∀ b o u, H b = some (.frz o u) → H' b = some (.frz o u)
  tbls : ∀ b ps, H b = some (.tbl ps) → ∃ more, H' b = some (.tbl (ps ++ more))
section
variable {fs fs' ex ex' : List Addr} {H H1 H2 : Hp} {h h1 h2 h' : Heap} {a x e : Addr} {o : HO}
theorem Un.any (u : Un fs ex H H1 h h1) {b : Addr} {ob : Obj} (q : h.get? b = some ob) (n : H b = none) (hx : b ∉ ex) : ∃ sl, h1.get? b = some { ob with slots := sl } := by
  by_cases hb : b ∈ fs
  · exact u.slot b ob q n hb hx
  · exact ⟨ob.slots, u.keep b ob q n hb hx⟩
theorem Un.trans (a : Un fs ex H H1 h h1) (b : Un fs ex H1 H2 h1 h2) : Un fs ex H H2 h h2 where
  keep := fun c ob q n hc hx => b.keep c ob (a.keep c ob q n hc hx) (a.free c ob q n hx) hc hx
  slot := fun c ob q n hc hx => by
    obtain ⟨sl, e1⟩ := a.slot c ob q n hc hx
    obtain ⟨sl', e2⟩ := b.slot c _ e1 (a.free c ob q n hx) hc hx
    exact ⟨sl', e2⟩
  free := fun c ob q n hx => by
    obtain ⟨o', e1⟩ := a.there c ob q hx
    exact b.free c o' e1 (a.free c ob q n hx) hx
  there := fun c ob q hx => by
    obtain ⟨o', e1⟩ := a.there c ob q hx
    exact b.there c o' e1 hx
  tups := fun c xs q => b.tups c xs (a.tups c xs q)
  frzs := fun c ob xs q => b.frzs c ob xs (a.frzs c ob xs q)
  tbls := fun c ps q => by
    obtain ⟨m1, e1⟩ := a.tbls c ps q
    obtain ⟨m2, e2⟩ := b.tbls c _ e1
    exact ⟨m1 ++ m2, by rw [e2, Array.append_assoc]⟩
theorem Un.kept (k : ∀ b u, h.get? b = some u → h'.get? b = some u) : Un fs ex H H h h' :=
  ⟨fun b ob q _ _ _ => k b ob q, fun b ob q _ _ _ => ⟨ob.slots, k b ob q⟩, fun _ _ _ n _ => n, fun b ob q _ => ⟨ob, k b ob q⟩, fun _ _ q => q, fun _ _ _ q => q, fun _ ps q => ⟨#[], by rw [q]; simp⟩⟩
theorem Un.refl : Un fs ex H H h h := Un.kept fun _ _ q => q
theorem Un.laid (k : ∀ b u, h.get? b = some u → h'.get? b = some u) (hp : h.objs.size ≤ a) (hn : H a = none) : Un fs ex H (upd H a o) h h' where
  keep := fun b u q _ _ _ => k b u q
  slot := fun b u q _ _ _ => ⟨u.slots, k b u q⟩
  free := fun b u q n _ => by rw [upd_ne (Nat.ne_of_lt (Nat.lt_of_lt_of_le (Heap.lt_size q) hp))]; exact n
  there := fun b u q _ => ⟨u, k b u q⟩
  tups := fun b xs q => by rw [upd_ne (ne_of_none q hn)]; exact q
  frzs := fun b u xs q => by rw [upd_ne (ne_of_none q hn)]; exact q
  tbls := fun b ps q => ⟨#[], by rw [upd_ne (ne_of_none q hn), q]; simp⟩
theorem Un.write (mu : Mut (H x)) (he : e = x ∨ H e = some (.own x)) (k : ∀ b u, b ≠ e → h.get? b = some u → h'.get? b = some u) (heo : ∃ u, h'.get? e = some u) : Un fs ex H (upd H x o) h h' := by
  have hx : ∀ b, H b = none → b ≠ x := fun b n z => by subst z; rw [n] at mu; exact mu
  have hb : ∀ b, H b = none → b ≠ e := fun b n z => by
    subst z
    rcases he with r | r
    · exact hx b n r
    · rw [n] at r; cases r
  have hm : ∀ b u, H b = some u → ¬ Mut (some u) → b ≠ x := fun b u q nm z => by subst z; rw [q] at mu; exact nm mu
  refine ⟨fun b u q n _ _ => k b u (hb b n) q, fun b u q n _ _ => ⟨u.slots, k b u (hb b n) q⟩, fun b u q n _ => by rw [upd_ne (hx b n)]; exact n, fun b u q _ => ?_,
    fun b xs q => by rw [upd_ne (hm b _ q fun z => z)]; exact q, fun b u xs q => by rw [upd_ne (hm b _ q fun z => z)]; exact q, fun b ps q => ⟨#[], by rw [upd_ne (hm b _ q fun z => z), q]; simp⟩⟩
  by_cases hbe : b = e
  · subst hbe; exact heo
  · exact ⟨u, k b u hbe q⟩
theorem Un.mono (u : Un fs ex H H1 h h1) (hs : ∀ b ∈ fs, b ∈ fs') (hx : ∀ b ∈ ex, b ∈ ex') : Un fs' ex' H H1 h h1 :=
  ⟨fun b ob q n hb he => u.keep b ob q n (fun z => hb (hs b z)) fun z => he (hx b z), fun _ _ q n _ he => u.any q n fun z => he (hx _ z), fun b ob q n he => u.free b ob q n fun z => he (hx b z), fun b ob q he => u.there b ob q fun z => he (hx b z), u.tups, u.frzs, u.tbls⟩
end
def trk (h : Heap) (H : Hp) : List Addr := (List.range h.objs.size).filter fun a => (H a).isSome
def hidT (h : Heap) (H : Hp) : Heap := PySem.W.hideAll h (trk h H)
theorem hidT_size (h : Heap) (H : Hp) : (hidT h H).objs.size = h.objs.size := PySem.W.hideAll_size _ _
theorem hidT_get {h : Heap} {H : Hp} {b : Addr} {o : Obj} (e : h.get? b = some o) (n : H b = none) : (hidT h H).get? b = some o :=
  PySem.W.hideAll_get _ e fun hm => by
    have q : (H b).isSome = true := (List.mem_filter.mp hm).2
    rw [n] at q; simp at q
theorem of_hidT {h : Heap} {H : Hp} {b : Addr} {o : Obj} (e : (hidT h H).get? b = some o) : h.get? b = some o ∧ H b = none := by
  have e' : h.get? b = some o := PySem.W.of_hideAll (trk h H) e
  refine ⟨e', ?_⟩
  cases q : H b with
  | none => rfl
  | some x =>
    have hm : b ∈ trk h H := List.mem_filter.mpr ⟨List.mem_range.mpr (Heap.lt_size e'), by simp [q]⟩
    have z : (hidT h H).get? b = none := PySem.W.hideAll_none (trk h H) hm
    rw [z] at e; cases e
def allNews (g h : Heap) (L : Addr) : List (Addr × Obj) := (List.range h.objs.size).filterMap fun a => if a = L ∨ (g.get? a).isSome = true then none else (h.get? a).map fun o => (a, o)
def rest (g h : Heap) (L d : Addr) : List (Addr × Obj) := (allNews g h L).filter fun p => decide (p.1 ≠ d)
end L2
namespace L2
open PySem PySem.Spec PyProof.Rows
structure Mod (K : PySem.W.Frag) (mg : Str → Option Value) (base : Heap) : Prop where
  kin : K.In base
  glob : base.Ns mainGlobals mg
  blt : ∃ mb, base.Ns builtinsNs mb ∧ ∀ x : Str, x ≠ "__name__" → mb x = bootBuiltins x
  nolimit : base.NoLimit
structure Cx where
  prog : Program
  w : World
  K : PySem.W.Frag
  mg : Str → Option Value
  base : Heap
  A : Around
  N : List Str
  s₀ : Shared
  H₀ : Hp
  env : Env
  outer : List Env
  stack : List Env
  ex : List Addr
  fn : Str → Bool
  calm : Bool
  pn : List (Addr × Obj)
  xe : Value → Shared → Prop
def frs (l : List Env) : List Addr := l.filterMap (·.frame)
abbrev Cx.fs (X : Cx) : List Addr := frs X.outer
def Vis (sc : Scope) (x : Str) : Prop := sc.names.lookup x = some .local ∨ sc.names.lookup x = some .cell ∨ sc.names.lookup x = some .free
def Loc (sc : Scope) (x : Str) : Prop := sc.names.lookup x = some .local ∨ sc.names.lookup x = some .cell
def Look (env : Env) (h : Heap) (m : Str → Option Value) (x : Str) (u : Value) : Prop :=
  (env.kindOf x = some .local ∧ m x = some u) ∨ ((env.kindOf x = some .cell ∨ env.kindOf x = some .free) ∧ ∃ c, env.cells.lookup x = some c ∧ h.IsCell c (some u))
structure Cx.Ok (X : Cx) : Prop where
  mod : Mod X.K X.mg X.base
  kind : X.env.scope.kind = .function
  glob : X.env.globals = mainGlobals
  blt : X.env.builtins = builtinsNs
  above : X.s₀.heap.objs.size ≤ X.env.locals
  inj : ∀ x y c, X.env.cells.lookup x = some c → X.env.cells.lookup y = some c → x = y
  has : ∀ x, (X.env.kindOf x = some .cell ∨ X.env.kindOf x = some .free) → ∃ c, X.env.cells.lookup x = some c
  cab : ∀ x c, X.fn x = true → X.env.cells.lookup x = some c → X.s₀.heap.objs.size ≤ c
  hd : X.calm = true → X.A.handled = none
  frames : X.A.frames = some X.stack
  stk : X.stack = X.outer ∨ (X.stack = X.env :: X.outer ∧ X.env.frame = some X.env.locals)
  exf : ∀ b ∈ X.ex, b ≠ X.env.locals ∧ ∀ x c, X.env.cells.lookup x = some c → c ≠ b
  bs : ∀ b o, X.base.get? b = some o → X.s₀.heap.get? b = some o ∧ X.H₀ b = none
  bsz : X.base.objs.size ≤ X.s₀.heap.objs.size
  noex : ∀ b o, X.base.get? b = some o → b ∉ X.ex
  exfs : ∀ b ∈ X.ex, b ∉ X.fs
  funs : X.s₀.heap.FunFrames X.base X.outer
  frf : ∀ b ∈ X.fs, X.H₀ b = none
structure Inv (X : Cx) (pins : List (Addr × Obj)) (σ : List (Option V)) (H : Hp) (s : Shared) : Prop where
  ok : X.Ok
  os : s.os = X.s₀.os
  bare : AllBare s.gens
  base : Un X.fs X.ex X.H₀ H X.s₀.heap s.heap
  loc : ∃ m, s.heap.Ns X.env.locals m ∧ ∀ (i : Nat) (x : Str) (v : V), X.N[i]? = some x → σ[i]? = some (some v) → Vis X.env.scope x → ∃ u, RelV v u ∧ Look X.env s.heap m x u
  cell : ∀ x c, X.env.cells.lookup x = some c → ∃ v, s.heap.IsCell c v
  free : H X.env.locals = none
  freeC : ∀ x c, X.env.cells.lookup x = some c → H c = none
  pin : ∀ p ∈ X.pn ++ pins, s.heap.get? p.1 = some p.2 ∧ H p.1 = none ∧ p.1 ≠ X.env.locals ∧ p.1 ∉ X.fs ∧ ∀ v, p.2.data ≠ .cell v
  hok : HOk X.prog X.w H s.heap
  len : σ.length = X.N.length
section
variable {X : Cx} {pins : List (Addr × Obj)} {σ : List (Option V)} {H H' : Hp} {s : Shared} {h' : Heap}
theorem Cx.Ok.nofr (ok : X.Ok) {b : Addr} {o : Obj} (e : X.base.get? b = some o) : b ∉ X.fs := fun hb => by
  have := (ok.funs.mem hb).1
  rw [e] at this; cases this
theorem Inv.bs (I : Inv X pins σ H s) : ∀ b o, X.base.get? b = some o → s.heap.get? b = some o ∧ H b = none := fun b o e =>
  ⟨I.base.keep b o (I.ok.bs b o e).1 (I.ok.bs b o e).2 (I.ok.nofr e) (I.ok.noex b o e), I.base.free b o (I.ok.bs b o e).1 (I.ok.bs b o e).2 (I.ok.noex b o e)⟩
theorem Inv.bk (I : Inv X pins σ H s) : ∀ b o, X.base.get? b = some o → s.heap.get? b = some o := fun b o e => (I.bs b o e).1
theorem Inv.mod (I : Inv X pins σ H s) : Mod X.K X.mg X.base := I.ok.mod
theorem Inv.kIn (I : Inv X pins σ H s) : X.K.In s.heap := I.ok.mod.kin.keeps I.bk
theorem Inv.nolimit (I : Inv X pins σ H s) : s.heap.NoLimit := I.ok.mod.nolimit.keeps I.bk
theorem Inv.lt (I : Inv X pins σ H s) : X.env.locals < s.heap.objs.size := let ⟨_, hn, _⟩ := I.loc; hn.lt
theorem Inv.sz (I : Inv X pins σ H s) : X.s₀.heap.objs.size ≤ s.heap.objs.size := Nat.le_trans I.ok.above (Nat.le_of_lt I.lt)
theorem Inv.nofs (I : Inv X pins σ H s) {a : Addr} (h : s.heap.objs.size ≤ a) : a ∉ X.fs := fun hb => by
  obtain ⟨_, o, ho, _⟩ := I.ok.funs.mem hb
  exact absurd (Nat.lt_of_lt_of_le (Heap.lt_size ho) (Nat.le_trans I.sz h)) (Nat.lt_irrefl _)
theorem Inv.cne (I : Inv X pins σ H s) : ∀ x c, X.env.cells.lookup x = some c → c ≠ X.env.locals := fun x c e z => by
  obtain ⟨v, o, ho, hd⟩ := I.cell x c e
  obtain ⟨m, ⟨o', es, ep, ho', hd', _⟩, _⟩ := I.loc
  rw [z, ho'] at ho; cases ho; rw [hd'] at hd; cases hd
theorem Inv.funs (I : Inv X pins σ H s) : s.heap.FunFrames X.base X.outer := by
  have all : ∀ (l : List Env), (∀ b ∈ frs l, b ∈ X.fs) → X.s₀.heap.FunFrames X.base l → s.heap.FunFrames X.base l := by
    intro l
    induction l with
    | nil => intro _ _; trivial
    | cons env r ih =>
      intro hs hl
      obtain ⟨hk, ⟨L, o, hf, hn, ho, hd⟩, hr⟩ := hl
      have hL : L ∈ X.fs := hs L (by unfold frs; rw [List.filterMap_cons, hf]; exact List.mem_cons_self)
      obtain ⟨sl, e⟩ := I.base.slot L o ho (I.ok.frf L hL) hL fun z => I.ok.exfs L z hL
      exact ⟨hk, ⟨L, _, hf, hn, e, hd⟩, ih (fun b hb => hs b (by unfold frs; rw [List.filterMap_cons, hf]; exact List.mem_cons_of_mem _ hb)) hr⟩
  exact all X.outer (fun _ hb => hb) I.ok.funs
theorem Inv.stack (I : Inv X pins σ H s) : s.heap.FunFrames X.base X.stack := by
  rcases I.ok.stk with e | ⟨e, hf⟩
  · rw [e]; exact I.funs
  · rw [e]
    obtain ⟨m, hn, _⟩ := I.loc
    refine .cons (by rw [I.ok.kind]; decide) hf hn ?_ I.funs
    exact Heap.get?_none_of_le (Nat.le_trans I.ok.bsz I.ok.above)
theorem Inv.stkSub (I : Inv X pins σ H s) : ∀ b ∈ frs X.stack, b ∈ X.env.locals :: X.fs := fun b hb => by
  rcases I.ok.stk with e | ⟨e, hf⟩
  · rw [e] at hb; exact List.mem_cons_of_mem _ hb
  · rw [e] at hb
    unfold frs at hb
    rw [List.filterMap_cons, hf] at hb
    exact hb
theorem Inv.stkFree (I : Inv X pins σ H s) : ∀ b ∈ frs X.stack, H b = none := fun b hb => by
  rcases List.mem_cons.mp (I.stkSub b hb) with e | hb
  · rw [e]; exact I.free
  · obtain ⟨_, o, ho, _⟩ := I.ok.funs.mem hb
    exact I.base.free b o ho (I.ok.frf b hb) fun z => I.ok.exfs b z hb
theorem Inv.step {g' : Array GenState} {t' : Nat} {d' : Drawn} {ch : List Addr} (I : Inv X pins σ H s)
    (hch : ∀ b ∈ ch, (b ∈ X.ex ∨ X.s₀.heap.objs.size ≤ b) ∧ b ≠ X.env.locals ∧ (∀ x c, X.env.cells.lookup x = some c → c ≠ b) ∧ ∀ p ∈ X.pn ++ pins, p.1 ≠ b)
    (keep : ∀ b o, b ≠ X.env.locals → b ∉ X.fs → b ∉ ch → s.heap.get? b = some o → H b = none → h'.get? b = some o)
    (slot : ∀ b o, b ≠ X.env.locals → b ∈ X.fs → b ∉ ch → s.heap.get? b = some o → H b = none → ∃ sl, h'.get? b = some { o with slots := sl }) (free : ∀ b o, b ∉ ch → s.heap.get? b = some o → H b = none → H' b = none)
    (there : ∀ b o, b ∉ ch → s.heap.get? b = some o → ∃ o', h'.get? b = some o')
    (tups : ∀ b xs, H b = some (.tup xs) → H' b = some (.tup xs)) (frzs : ∀ b o u, H b = some (.frz o u) → H' b = some (.frz o u)) (tbls : ∀ b ps, H b = some (.tbl ps) → ∃ more, H' b = some (.tbl (ps ++ more)))
    (ns : ∀ m, s.heap.Ns X.env.locals m → h'.Ns X.env.locals m) (hok : HOk X.prog X.w H' h') (hg : AllBare g') :
    Inv X pins σ H' { s with heap := h', gens := g', drawn := d', toks := t' } := by
  have neL : ∀ b o, X.s₀.heap.get? b = some o → b ≠ X.env.locals := fun b o e => Nat.ne_of_lt (Nat.lt_of_lt_of_le (Heap.lt_size e) I.ok.above)
  have neC : ∀ b o, X.s₀.heap.get? b = some o → b ∉ X.ex → b ∉ ch := fun b o e hx hb => by
    rcases (hch b hb).1 with z | z
    · exact hx z
    · exact absurd (Nat.lt_of_lt_of_le (Heap.lt_size e) z) (Nat.lt_irrefl _)
  have cellK : ∀ x c, X.env.cells.lookup x = some c → ∀ v, s.heap.IsCell c v → h'.IsCell c v := fun x c e v ⟨o, ho, hd⟩ => by
    have nch : c ∉ ch := fun z => (hch c z).2.2.1 x c e rfl
    by_cases hc : c ∈ X.fs
    · obtain ⟨sl, q⟩ := slot c o (I.cne x c e) hc nch ho (I.freeC x c e)
      exact ⟨_, q, hd⟩
    · exact ⟨o, keep c o (I.cne x c e) hc nch ho (I.freeC x c e), hd⟩
  refine ⟨I.ok, I.os, hg, ⟨fun b o e n hb hx => ?_, fun b o e n hb hx => ?_, fun b o e n hx => ?_, fun b o e hx => ?_, fun b xs e => tups b xs (I.base.tups b xs e), fun b o xs e => frzs b o xs (I.base.frzs b o xs e), fun b ps e => ?_⟩, ?_, fun x c e => ?_, ?_, fun x c e => ?_, fun p hp => ?_, hok, I.len⟩
  · exact keep b o (neL b o e) hb (neC b o e hx) (I.base.keep b o e n hb hx) (I.base.free b o e n hx)
  · obtain ⟨sl, e1⟩ := I.base.slot b o e n hb hx
    obtain ⟨sl', e2⟩ := slot b _ (neL b o e) hb (neC b o e hx) e1 (I.base.free b o e n hx)
    exact ⟨sl', e2⟩
  · obtain ⟨o', e1⟩ := I.base.there b o e hx
    exact free b o' (neC b o e hx) e1 (I.base.free b o e n hx)
  · obtain ⟨o', e1⟩ := I.base.there b o e hx
    exact there b o' (neC b o e hx) e1
  · obtain ⟨m1, e1⟩ := I.base.tbls b ps e
    obtain ⟨m2, e2⟩ := tbls b _ e1
    exact ⟨m1 ++ m2, by rw [e2, Array.append_assoc]⟩
  · obtain ⟨m, hn, hl⟩ := I.loc
    refine ⟨m, ns m hn, fun i x v e1 e2 e3 => ?_⟩
    obtain ⟨u, r, l⟩ := hl i x v e1 e2 e3
    refine ⟨u, r, ?_⟩
    rcases l with l | ⟨k, c, e, z⟩
    · exact .inl l
    · exact .inr ⟨k, c, e, cellK x c e _ z⟩
  · obtain ⟨v, z⟩ := I.cell x c e
    exact ⟨v, cellK x c e v z⟩
  · obtain ⟨m, ⟨o, _, _, ho, _⟩, _⟩ := I.loc
    exact free _ o (fun z => (hch _ z).2.1 rfl) ho I.free
  · obtain ⟨v, o, ho, hd⟩ := I.cell x c e
    exact free c o (fun z => (hch c z).2.2.1 x c e rfl) ho (I.freeC x c e)
  · obtain ⟨e, n, ne, nf, d⟩ := I.pin p hp
    have nch : p.1 ∉ ch := fun z => (hch p.1 z).2.2.2 p hp rfl
    exact ⟨keep p.1 p.2 ne nf nch e n, free p.1 p.2 nch e n, ne, nf, d⟩
theorem Inv.un {t' : Nat} (I : Inv X pins σ H s) (u : Un X.fs [] H H' s.heap h') (hok : HOk X.prog X.w H' h') : Inv X pins σ H' { s with heap := h', toks := t' } := by
  obtain ⟨m, ⟨o, es, ep, ho, r⟩, _⟩ := id I.loc
  obtain ⟨sl, hL⟩ := u.any ho I.free (by simp)
  exact I.step (g' := s.gens) (d' := s.drawn) (ch := []) (fun _ z => nomatch z) (fun b o _ hb _ e n => u.keep b o e n hb (by simp)) (fun b o _ hb _ e n => u.slot b o e n hb (by simp)) (fun b o _ e n => u.free b o e n (by simp)) (fun b o _ e => u.there b o e (by simp)) u.tups u.frzs u.tbls (fun m' hm => by
    obtain ⟨o', es', ep', ho', r'⟩ := hm
    rw [ho] at ho'; cases ho'
    exact ⟨_, es', ep', hL, r'⟩) hok I.bare
theorem Inv.call {g' : Array GenState} {t' : Nat} {d' : Drawn} {ch : List Addr} (I : Inv X pins σ H s) (u : Un (frs X.stack) ch H H' s.heap h') (hok : HOk X.prog X.w H' h') (hg : AllBare g')
    (hch : ∀ b ∈ ch, (b ∈ X.ex ∨ X.s₀.heap.objs.size ≤ b) ∧ b ≠ X.env.locals ∧ (∀ x c, X.env.cells.lookup x = some c → c ≠ b) ∧ ∀ p ∈ X.pn ++ pins, p.1 ≠ b) :
    Inv X pins σ H' { s with heap := h', gens := g', drawn := d', toks := t' } := by
  obtain ⟨m, ⟨o, es, ep, ho, r⟩, _⟩ := id I.loc
  obtain ⟨sl, hL⟩ := u.any ho I.free fun z => (hch _ z).2.1 rfl
  exact I.step (ch := ch) hch (fun b o hL hb hc e n => u.keep b o e n (fun z => (List.mem_cons.mp (I.stkSub b z)).elim hL hb) hc) (fun b o _ _ hc e n => u.any e n hc) (fun b o hc e n => u.free b o e n hc) (fun b o hc e => u.there b o e hc) u.tups u.frzs u.tbls (fun m' hm => by
    obtain ⟨o', es', ep', ho', r'⟩ := hm
    rw [ho] at ho'; cases ho'
    exact ⟨_, es', ep', hL, r'⟩) hok hg
theorem Inv.turned {t' : Nat} {it : Addr} (I : Inv X pins σ H s) (k : ∀ b o, b ≠ it → s.heap.get? b = some o → h'.get? b = some o) (hn : H it = none) (hL : it ≠ X.env.locals)
    (h1 : it ∈ X.ex ∨ X.s₀.heap.objs.size ≤ it) (h2 : ∀ x c, X.env.cells.lookup x = some c → c ≠ it) (h3 : ∀ p ∈ X.pn ++ pins, p.1 ≠ it) : Inv X pins σ H { s with heap := h', toks := t' } := by
  have nit : ∀ b u, H b = some u → b ≠ it := fun b u e z => by rw [z, hn] at e; cases e
  refine I.step (g' := s.gens) (d' := s.drawn) (ch := [it]) (fun b hb => ?_) (fun b o _ _ hc e _ => k b o (fun z => hc (by simp [z])) e) (fun b o _ _ hc e _ => ⟨o.slots, k b o (fun z => hc (by simp [z])) e⟩) (fun _ _ _ _ n => n)
    (fun b o hc e => ⟨o, k b o (fun z => hc (by simp [z])) e⟩) (fun _ _ e => e) (fun _ _ _ e => e) (fun b ps e => ⟨#[], by rw [e]; simp⟩) (fun m hm => ?_) (fun b u e => ?_) I.bare
  · have e : b = it := by simpa using hb
    subst e
    exact ⟨h1, hL, h2, h3⟩
  · obtain ⟨o, es, ep, ho, r⟩ := hm
    exact ⟨o, es, ep, k _ o (Ne.symm hL) ho, r⟩
  · refine (I.hok b u e).stay (fun c v hc q => k c v ?_ q) (fun _ q => q) fun _ _ q => q
    rcases hc with z | z
    · rw [z]; exact nit b u e
    · exact nit c _ z
theorem Inv.tok (I : Inv X pins σ H s) (t : Nat) : Inv X pins σ H { s with toks := t } := I.un (h' := s.heap) (t' := t) Un.refl I.hok
theorem Inv.kept {t' : Nat} (I : Inv X pins σ H s) (k : ∀ b u, s.heap.get? b = some u → h'.get? b = some u) : Inv X pins σ H { s with heap := h', toks := t' } := I.un (Un.kept k) (I.hok.kept k)
theorem Inv.laid {a : Addr} {o : HO} {t' : Nat} (I : Inv X pins σ H s) (k : ∀ b u, s.heap.get? b = some u → h'.get? b = some u) (hp : s.heap.objs.size ≤ a) (new : ObjOk X.prog X.w (upd H a o) h' a o) :
    Inv X pins σ (upd H a o) { s with heap := h', toks := t' } := I.un (Un.laid k hp (I.hok.fresh hp)) (I.hok.laid k hp new)
theorem Inv.write {x e : Addr} {o : HO} {t' : Nat} (I : Inv X pins σ H s) (mu : Mut (H x)) (he : e = x ∨ H e = some (.own x)) (k : ∀ b u, b ≠ e → s.heap.get? b = some u → h'.get? b = some u) (heo : ∃ u, h'.get? e = some u)
    (new : ObjOk X.prog X.w (upd H x o) h' x o) : Inv X pins σ (upd H x o) { s with heap := h', toks := t' } := I.un (Un.write mu he k heo) (I.hok.write mu he k heo new)
theorem Inv.pins_of {pins' : List (Addr × Obj)} (I : Inv X pins σ H s) (h : ∀ p ∈ pins', s.heap.get? p.1 = some p.2 ∧ H p.1 = none ∧ p.1 ≠ X.env.locals ∧ p.1 ∉ X.fs ∧ ∀ v, p.2.data ≠ .cell v) : Inv X pins' σ H s :=
  ⟨I.ok, I.os, I.bare, I.base, I.loc, I.cell, I.free, I.freeC, fun p hp => (List.mem_append.mp hp).elim (fun z => I.pin p (List.mem_append_left _ z)) (h p), I.hok, I.len⟩
theorem nodup_ix {N : List Str} (hN : N.Nodup) {i j : Nat} {x : Str} (a : N[i]? = some x) (b : N[j]? = some x) : i = j := by
  obtain ⟨h1, e1⟩ := List.getElem?_eq_some_iff.mp a
  obtain ⟨h2, e2⟩ := List.getElem?_eq_some_iff.mp b
  exact (List.getElem_inj hN).mp (e1.trans e2.symm)
theorem store_ok2 {M : Model} {A : Around} {E : Value → Shared → Prop} {i : Nat} {x : Str} {v : V} {u : Value} {Q : Unit → Shared → Prop} (I : Inv X pins σ H s) (hN : X.N.Nodup) (hi : X.N[i]? = some x) (hx : Loc X.env.scope x) (r : RelV v u)
    (h : ∀ s', Inv X pins (σ.set i (some v)) H s' → (∃ a, Heap.SameBut a s.heap s'.heap ∧ (a = X.env.locals ∨ X.env.cells.lookup x = some a)) → Q () s') (hf : X.fn x = true ∨ X.env.scope.names.lookup x = some .local := by first | exact .inl rfl | exact .inr rfl | assumption) : wpAny M A (storeName X.env x u) Q E s := by
  obtain ⟨m, hn, hl⟩ := id I.loc
  have hcls : (X.env.scope.kind == .class || (X.env.scope.kind == .module && X.env.locals != X.env.globals)) = false := by rw [I.ok.kind]; rfl
  have hiσ : i < σ.length := by rw [I.len]; exact (List.getElem?_eq_some_iff.mp hi).1
  have cne := I.cne
  have tracked : ∀ {a : Addr} {h' : Heap}, (∃ o, s.heap.get? a = some o ∧ H a = none) → Heap.SameBut a s.heap h' → HOk X.prog X.w H h' := fun {a h'} ha hs b ob e => by
    obtain ⟨_, _, hfree⟩ := ha
    refine (I.hok b ob e).stay (fun c w' hc q => (hs.2 c ?_).trans q) (fun _ q => q) fun _ _ q => q
    rintro rfl
    rcases hc with rfl | hc
    · rw [hfree] at e; cases e
    · rw [hfree] at hc; cases hc
  rcases hx with hk | hk
  · refine wpAny_storeName_local hk hn (fun h' hn' hs => ?_) hcls
    obtain ⟨oL, _, _, hoL, _⟩ := id hn
    refine h _ ⟨I.ok, I.os, I.bare, ⟨fun b o e n hb hx => ?_, fun b o e n hb hx => ?_, I.base.free, fun b o e hx => ?_, I.base.tups, I.base.frzs, I.base.tbls⟩, ⟨_, hn', fun j y v' e1 e2 e3 => ?_⟩, fun y c e => ?_, I.free, I.freeC, fun p hp => ?_, tracked ⟨oL, hoL, I.free⟩ hs, by simpa using I.len⟩ ⟨_, hs, .inl rfl⟩
    · exact (hs.2 b (Nat.ne_of_lt (Nat.lt_of_lt_of_le (Heap.lt_size e) I.ok.above))).trans (I.base.keep b o e n hb hx)
    · obtain ⟨sl, e1⟩ := I.base.slot b o e n hb hx
      exact ⟨sl, (hs.2 b (Nat.ne_of_lt (Nat.lt_of_lt_of_le (Heap.lt_size e) I.ok.above))).trans e1⟩
    · obtain ⟨o', e1⟩ := I.base.there b o e hx
      exact ⟨o', (hs.2 b (Nat.ne_of_lt (Nat.lt_of_lt_of_le (Heap.lt_size e) I.ok.above))).trans e1⟩
    · by_cases hj : j = i
      · subst hj
        rw [hi] at e1; cases e1
        rw [List.getElem?_set_self hiσ] at e2
        cases e2
        exact ⟨u, r, .inl ⟨hk, by simp⟩⟩
      · rw [List.getElem?_set_ne (Ne.symm hj)] at e2
        obtain ⟨u', r', q⟩ := hl j y v' e1 e2 e3
        refine ⟨u', r', ?_⟩
        rcases q with ⟨k, e⟩ | ⟨k, c, e, z⟩
        · refine .inl ⟨k, ?_⟩
          have : y ≠ x := fun e => hj (nodup_ix hN e1 (e ▸ hi))
          simp [this, e]
        · exact .inr ⟨k, c, e, z.sameBut hs (cne y c e)⟩
    · obtain ⟨w', z⟩ := I.cell y c e
      exact ⟨w', z.sameBut hs (cne y c e)⟩
    · obtain ⟨e, n, ne, nf, d⟩ := I.pin p hp
      exact ⟨(hs.2 p.1 ne).trans e, n, ne, nf, d⟩
  · have hfn : X.fn x = true := by
      rcases hf with z | z
      · exact z
      · rw [z] at hk; cases hk
    obtain ⟨c, hc⟩ := I.ok.has x (.inl hk)
    obtain ⟨w', z⟩ := I.cell x c hc
    refine wpAny_storeName_cell I.ok.kind hk hc z (fun h' hc' hs => ?_)
    obtain ⟨oc, hoc, hocd⟩ := id z
    refine h { s with heap := h' } ⟨I.ok, I.os, I.bare, ⟨fun b o e n hb hx => ?_, fun b o e n hb hx => ?_, I.base.free, fun b o e hx => ?_, I.base.tups, I.base.frzs, I.base.tbls⟩, ⟨m, hn.sameBut hs (Ne.symm (cne x c hc)), fun j y v' e1 e2 e3 => ?_⟩, fun y c' e => ?_, I.free, I.freeC, fun p hp => ?_, tracked ⟨oc, hoc, I.freeC x c hc⟩ hs, by simpa using I.len⟩ ⟨c, hs, .inr hc⟩
    · exact (hs.2 b (Nat.ne_of_lt (Nat.lt_of_lt_of_le (Heap.lt_size e) (I.ok.cab x c hfn hc)))).trans (I.base.keep b o e n hb hx)
    · obtain ⟨sl, e1⟩ := I.base.slot b o e n hb hx
      exact ⟨sl, (hs.2 b (Nat.ne_of_lt (Nat.lt_of_lt_of_le (Heap.lt_size e) (I.ok.cab x c hfn hc)))).trans e1⟩
    · obtain ⟨o', e1⟩ := I.base.there b o e hx
      exact ⟨o', (hs.2 b (Nat.ne_of_lt (Nat.lt_of_lt_of_le (Heap.lt_size e) (I.ok.cab x c hfn hc)))).trans e1⟩
    · by_cases hj : j = i
      · subst hj
        rw [hi] at e1; cases e1
        rw [List.getElem?_set_self hiσ] at e2
        cases e2
        exact ⟨u, r, .inr ⟨.inl hk, c, hc, hc'⟩⟩
      · rw [List.getElem?_set_ne (Ne.symm hj)] at e2
        obtain ⟨u', r', q⟩ := hl j y v' e1 e2 e3
        refine ⟨u', r', ?_⟩
        rcases q with q | ⟨k, c', e, z'⟩
        · exact .inl q
        · refine .inr ⟨k, c', e, z'.sameBut hs ?_⟩
          rintro rfl
          exact hj (nodup_ix hN e1 (I.ok.inj _ _ _ e hc ▸ hi))
    · by_cases hcc : c' = c
      · subst hcc; exact ⟨_, hc'⟩
      · obtain ⟨w2, z2⟩ := I.cell y c' e
        exact ⟨w2, z2.sameBut hs hcc⟩
    · obtain ⟨e, n, ne, nf, d⟩ := I.pin p hp
      refine ⟨(hs.2 p.1 ?_).trans e, n, ne, nf, d⟩
      intro q
      rw [q, hoc] at e
      have q' : oc = p.2 := Option.some.inj e
      exact d w' (by rw [← q']; exact hocd)
theorem store_ok {M : Model} {A : Around} {E : Value → Shared → Prop} {i : Nat} {x : Str} {v : V} {u : Value} {Q : Unit → Shared → Prop} (I : Inv X pins σ H s) (hN : X.N.Nodup) (hi : X.N[i]? = some x) (hx : Loc X.env.scope x) (r : RelV v u)
    (h : ∀ s', Inv X pins (σ.set i (some v)) H s' → Q () s') (hf : X.fn x = true ∨ X.env.scope.names.lookup x = some .local := by first | exact .inl rfl | exact .inr rfl | assumption) : wpAny M A (storeName X.env x u) Q E s :=
  store_ok2 I hN hi hx r (fun s' I' _ => h s' I') hf
theorem Inv.call' {s' : Shared} {ch : List Addr} (I : Inv X pins σ H s) (ho : s'.os = s.os) (u : Un (frs X.stack) ch H H' s.heap s'.heap) (hok : HOk X.prog X.w H' s'.heap) (hg : AllBare s'.gens)
    (hch : ∀ b ∈ ch, (b ∈ X.ex ∨ X.s₀.heap.objs.size ≤ b) ∧ b ≠ X.env.locals ∧ (∀ x c, X.env.cells.lookup x = some c → c ≠ b) ∧ ∀ p ∈ X.pn ++ pins, p.1 ≠ b) : Inv X pins σ H' s' := by
  obtain ⟨h', g', d', t', o'⟩ := s'
  have e : o' = s.os := ho
  subst e
  exact I.call (g' := g') (t' := t') (d' := d') u hok hg hch
end
abbrev XK := Value → Option Addr → Hp → Prop
abbrev St := List (Option V)
abbrev VK := V → Hp → Prop
abbrev TE := St → Hp → VK → Prop
abbrev TT := St → Hp → (Bool → Hp → Prop) → Prop
abbrev TA := St → Hp → (List V → Hp → Prop) → Prop
structure Ends where
  nx : St → Hp → Prop
  rt : VK
  bk : St → Hp → Prop := fun _ _ => False
  ct : St → Hp → Prop := fun _ _ => False
abbrev TS := Ends → St → Hp → Prop
def EP (X : Cx) (pins : List (Addr × Obj)) (σ : St) (Q : VK) (u : Value) (s' : Shared) : Prop := ∃ v H', Inv X pins σ H' s' ∧ RelV v u ∧ Q v H'
def TP (X : Cx) (pins : List (Addr × Obj)) (σ : St) (Q : Bool → Hp → Prop) (b : Bool) (s' : Shared) : Prop := ∃ H', Inv X pins σ H' s' ∧ Q b H'
def AP (X : Cx) (pins : List (Addr × Obj)) (σ : St) (Q : List V → Hp → Prop) (us : List Value) (s' : Shared) : Prop := ∃ vs H', Inv X pins σ H' s' ∧ Vals vs us ∧ Q vs H'
def SP (X : Cx) (pins : List (Addr × Obj)) (D : Ends) (f : Flow) (s' : Shared) : Prop :=
  match f with
  | .next => ∃ σ' H', Inv X pins σ' H' s' ∧ D.nx σ' H'
  | .brk => ∃ σ' H', Inv X pins σ' H' s' ∧ D.bk σ' H'
  | .cont => ∃ σ' H', Inv X pins σ' H' s' ∧ D.ct σ' H'
  | .ret u => ∃ v σ' H', Inv X pins σ' H' s' ∧ RelV v u ∧ D.rt v H'
def PE (X : Cx) (e : Expr) (t : TE) : Prop :=
  ∀ (pins : List (Addr × Obj)) (s : Shared) (σ : St) (H : Hp) (Q : VK), Inv X pins σ H s → t σ H Q → wpAny (model X.prog X.w) X.A (eval e X.env) (EP X pins σ Q) X.xe s
def PT (X : Cx) (e : Expr) (t : TT) : Prop :=
  ∀ (pins : List (Addr × Obj)) (s : Shared) (σ : St) (H : Hp) (Q : Bool → Hp → Prop), Inv X pins σ H s → t σ H Q → wpAny (model X.prog X.w) X.A (isTrue e X.env (eval e X.env)) (TP X pins σ Q) X.xe s
def PW (X : Cx) (e : Expr) (t : TT) : Prop :=
  ∀ (whole : Sem Value) (pins : List (Addr × Obj)) (s : Shared) (σ : St) (H : Hp) (Q : Bool → Hp → Prop), Inv X pins σ H s → t σ H Q → wpAny (model X.prog X.w) X.A (isTrue e X.env whole) (TP X pins σ Q) X.xe s
theorem PW.pt {X : Cx} {e : Expr} {t : TT} (h : PW X e t) : PT X e t := h _
def PA (X : Cx) (es : List Expr) (t : TA) : Prop :=
  ∀ (pos : Pos) (pins : List (Addr × Obj)) (s : Shared) (σ : St) (H : Hp) (Q : List V → Hp → Prop), Inv X pins σ H s → t σ H Q → wpAny (model X.prog X.w) X.A (spliced (backTo pos (starEach es X.env))) (AP X pins σ Q) X.xe s
def PS (X : Cx) (st : Stmt) (t : TS) : Prop :=
  ∀ (pins : List (Addr × Obj)) (s : Shared) (σ : St) (H : Hp) (D : Ends), Inv X pins σ H s → t D σ H → wpAny (model X.prog X.w) X.A (exec st X.env) (SP X pins D) X.xe s
def PSs (X : Cx) (st : List Stmt) (t : TS) : Prop :=
  ∀ (pins : List (Addr × Obj)) (s : Shared) (σ : St) (H : Hp) (D : Ends), Inv X pins σ H s → t D σ H → wpAny (model X.prog X.w) X.A (execs st X.env) (SP X pins D) X.xe s
theorem thn {α : Type} {t : Sem α} {Q Q' : α → Shared → Prop} {M : Model} {A : Around} {E : Value → Shared → Prop} {s : Shared} (h : wpAny M A t Q E s) (hQ : ∀ a s, Q a s → Q' a s) : wpAny M A t Q' E s := wpAny_mono h hQ fun _ _ x => x
end L2
namespace L2
open PySem PySem.Spec PyProof.Rows
section
variable {X : Cx}
def tVar (i : Nat) : TE := fun σ H Q => ∃ v, σ[i]? = some (some v) ∧ Q v H
def tC (v : V) : TE := fun _ H Q => Q v H
theorem pe_var {i : Nat} {x : Str} {pos : Pos} (hN : X.N[i]? = some x) (hv : Vis X.env.scope x) (hd : (x == ("__debug__" : Str)) = false := by decide) (hcd : (x == ("__classdict__" : Str)) = false := by decide) : PE X (.Name x pos) (tVar i) := by
  intro pins s σ H Q I h
  obtain ⟨v, e, h⟩ := h
  obtain ⟨m, hn, hl⟩ := I.loc
  obtain ⟨u, r, l⟩ := hl i x v hN e hv
  have fin : EP X pins σ Q u s := ⟨v, H, I, r, h⟩
  rcases l with ⟨hk, hm⟩ | ⟨hk, c, hc, hcell⟩
  · exact wpAny_Name (wpAny_loadName_local I.ok.kind hk hn hm fin) hd
  · rcases hk with hk | hk
    · exact wpAny_Name (wpAny_loadName_cell I.ok.kind hk hc hcell fin) hd
    · exact wpAny_Name (wpAny_loadName_free I.ok.kind hk hc hcell fin hcd) hd
theorem pe_int {i j pos} : PE X (.Constant (.int i) j pos) (tC (.int i)) := fun _ _ _ H _ I h => wpAny_Constant_int ⟨.int i, H, I.tok _, ⟨_, rfl⟩, h⟩
theorem pe_bl {b j pos} : PE X (.Constant (.bool b) j pos) (tC (.bl b)) := fun _ _ _ H _ I h => Constant_bool ⟨.bl b, H, I, rfl, h⟩
def Gl (X : Cx) (x : Str) : Prop := X.env.kindOf x = some .globalImplicit
theorem ld_glob {E : Value → Shared → Prop} {pins : List (Addr × Obj)} {s : Shared} {σ : St} {H : Hp} {x : Str} {u : Value} {pos : Pos} {Q : Value → Shared → Prop} (I : Inv X pins σ H s) (hg : Gl X x) (hm : X.mg x = some u) (h : Q u s)
    (hd : (x == ("__debug__" : Str)) = false := by decide) : wpAny (model X.prog X.w) X.A (eval (.Name x pos) X.env) Q E s :=
  Calls.Name_function_global I.ok.kind hg (Calls.loadGlobal_global (by rw [I.ok.glob]; exact I.mod.glob.keeps I.bk) hm h) hd
theorem ld_blt {E : Value → Shared → Prop} {pins : List (Addr × Obj)} {s : Shared} {σ : St} {H : Hp} {x : Str} {u : Value} {pos : Pos} {Q : Value → Shared → Prop} (I : Inv X pins σ H s) (hg : Gl X x) (hm : X.mg x = none) (hv : bootBuiltins x = some u) (h : Q u s)
    (hn : x ≠ "__name__" := by decide) (hd : (x == ("__debug__" : Str)) = false := by decide) : wpAny (model X.prog X.w) X.A (eval (.Name x pos) X.env) Q E s := by
  obtain ⟨mb, h1, h2⟩ := I.mod.blt
  exact Calls.Name_function_global I.ok.kind hg (Calls.loadGlobal_builtin (by rw [I.ok.glob]; exact I.mod.glob.keeps I.bk) hm (by rw [I.ok.blt]; exact h1.keeps I.bk) ((h2 x hn).trans hv) h) hd
theorem pe_bltn {x : Str} {v : V} {u : Value} {pos : Pos} (hg : Gl X x) (hm : X.mg x = none) (hv : bootBuiltins x = some u) (r : RelV v u) (hn : x ≠ "__name__" := by decide) (hd : (x == ("__debug__" : Str)) = false := by decide) : PE X (.Name x pos) (tC v) :=
  fun _ _ _ H _ I h => ld_blt I hg hm hv ⟨v, H, I, r, h⟩ hn hd
variable {a b : Expr} {ta tb : TE} {pos : Pos}
def PC (X : Cx) (op : CmpOp) (a b : Expr) (t : TE) : Prop :=
  ∀ (pins : List (Addr × Obj)) (s : Shared) (σ : St) (H : Hp) (Q : VK), Inv X pins σ H s → t σ H Q →
    wpAny (model X.prog X.w) X.A (eval a X.env) (fun v s₁ => wpAny (model X.prog X.w) X.A (eval b X.env) (fun u s₂ => wpAny (model X.prog X.w) X.A (compareOp op v u) (EP X pins σ Q) X.xe s₂) X.xe s₁) X.xe s
theorem nobehind (b : Expr) {op : CmpOp} (h : op ≠ .In) (h2 : op ≠ .NotIn) : behindInMarks op b = false := by
  have e1 : (op == CmpOp.In) = false := by cases op <;> first | rfl | exact absurd rfl h
  have e2 : (op == CmpOp.NotIn) = false := by cases op <;> first | rfl | exact absurd rfl h2
  cases b <;> simp [behindInMarks, e1, e2]
def tB (t : TE) : TT := fun σ H Q => t σ H fun x H1 => ∃ c, x = .bl c ∧ Q c H1
theorem pt_cmp {op : CmpOp} {t : TE} (h : PC X op a b t) (h1 : behindInMarks op b = false := by first | exact nobehind _ (by decide) (by decide) | rfl) : PT X (.Compare a [op] [b] pos) (tB t) := by
  intro pins s σ H Q I hw
  refine wpAny_isTrue_Compare1 (thn (h pins s σ H _ I hw) fun v s1 h1 => thn h1 fun u s2 h2 => thn h2 fun c s3 ⟨x, H1, I1, r1, q1⟩ => ?_) h1
  obtain ⟨d, rfl, q⟩ := q1
  cases r1
  exact wpAny_truthy_bool ⟨H1, I1, q⟩
theorem pt_val {e : Expr} {t : TE} (h : PE X e t) (he : ∀ whole, isTrue e X.env whole = (do let v ← whole; standAt e.pos; holding [v] (truthy v)) := by intro _; rfl) : PT X e (tB t) := by
  intro pins s σ H Q I hw
  refine isTrue_plain (thn (h pins s σ H _ I hw) fun v s1 ⟨x, H1, I1, r1, q1⟩ => ?_) (he _)
  obtain ⟨d, rfl, q⟩ := q1
  cases r1
  exact wpAny_truthy_bool ⟨H1, I1, q⟩
variable {tA tB' : TT} {rest : List Expr}
def tAnd (t u : TT) : TT := fun σ H Q => t σ H fun c H1 => if c = true then u σ H1 Q else Q false H1
def tOr (t u : TT) : TT := fun σ H Q => t σ H fun c H1 => if c = true then Q true H1 else u σ H1 Q
def tNot (t : TT) : TT := fun σ H Q => t σ H fun c H1 => Q (!c) H1
theorem pw_and1 (ha : PT X a tA) : PW X (.BoolOp .And [a] pos) tA := by
  intro wh pins s σ H Q I h
  refine isTrue_and (thn (ha pins s σ H Q I h) fun c s1 e => ?_)
  cases c with
  | true => exact isTrue_and_nil e
  | false => exact e
theorem pw_or1 (ha : PT X a tA) : PW X (.BoolOp .Or [a] pos) tA := by
  intro wh pins s σ H Q I h
  refine isTrue_or (thn (ha pins s σ H Q I h) fun c s1 e => ?_)
  cases c with
  | false => exact isTrue_or_nil e
  | true => exact e
theorem pw_and (ha : PT X a tA) (hb : PW X (.BoolOp .And (b :: rest) pos) tB') : PW X (.BoolOp .And (a :: b :: rest) pos) (tAnd tA tB') := by
  intro wh pins s σ H Q I h
  refine isTrue_and (thn (ha pins s σ H _ I h) fun c s1 ⟨H1, I1, q1⟩ => ?_)
  cases c with
  | true => exact hb wh pins s1 σ H1 Q I1 q1
  | false => exact ⟨H1, I1, q1⟩
theorem pw_or (ha : PT X a tA) (hb : PW X (.BoolOp .Or (b :: rest) pos) tB') : PW X (.BoolOp .Or (a :: b :: rest) pos) (tOr tA tB') := by
  intro wh pins s σ H Q I h
  refine isTrue_or (thn (ha pins s σ H _ I h) fun c s1 ⟨H1, I1, q1⟩ => ?_)
  cases c with
  | true => exact ⟨H1, I1, q1⟩
  | false => exact hb wh pins s1 σ H1 Q I1 q1
theorem pt_not (ha : PT X a tA) : PT X (.UnaryOp .Not a pos) (tNot tA) := by
  intro pins s σ H Q I h
  exact isTrue_not (ha pins s σ H (fun c H1 => Q (!c) H1) I h)
def tAndV (ta tb : TE) : TE := fun σ H Q => ta σ H fun x H1 => ∃ c, x = .bl c ∧ if c = true then tb σ H1 Q else Q (.bl false) H1
def tOrV (ta tb : TE) : TE := fun σ H Q => ta σ H fun x H1 => ∃ c, x = .bl c ∧ if c = true then Q (.bl true) H1 else tb σ H1 Q
def tNotV (ta : TE) : TE := fun σ H Q => ta σ H fun x H1 => ∃ c, x = .bl c ∧ Q (.bl (!c)) H1
theorem pe_one {op} {t : TE} (h : PE X a t) : PE X (.BoolOp op [a] pos) t := fun pins s σ H Q I hw => BoolOp_one (h pins s σ H Q I hw)
theorem pe_and (ha : PE X a ta) (hb : PE X (.BoolOp .And (b :: rest) pos) tb) : PE X (.BoolOp .And (a :: b :: rest) pos) (tAndV ta tb) := by
  intro pins s σ H Q I h
  refine BoolOp_and (thn (ha pins s σ H _ I h) fun v s1 ⟨x, H1, I1, r1, q1⟩ => ?_)
  obtain ⟨c, rfl, q1⟩ := q1
  cases r1
  refine wpAny_truthy_bool ?_
  cases c with
  | true => exact hb pins s1 σ H1 Q I1 q1
  | false => exact ⟨.bl false, H1, I1, rfl, q1⟩
theorem pe_not (ha : PE X a ta) : PE X (.UnaryOp .Not a pos) (tNotV ta) := by
  intro pins s σ H Q I h
  refine UnaryOp_ (thn (ha pins s σ H _ I h) fun v s1 ⟨x, H1, I1, r1, q1⟩ => ?_)
  obtain ⟨c, rfl, q1⟩ := q1
  cases r1
  exact not_of (wpAny_truthy_bool ⟨.bl (!c), H1, I1, rfl, q1⟩)
def tIf (t : TT) (ta tb : TE) : TE := fun σ H Q => t σ H fun c H1 => if c = true then ta σ H1 Q else tb σ H1 Q
end
end L2
namespace L2
open PySem PySem.Spec PyProof.Rows
def SqL (K : PySem.W.Frag) (H : Hp) (a : Addr) (xs : List V) : Prop :=
  Rd H a (.lst xs) ∨
    ∃ (o : Obj) (its : Array Value) (n : Nat), K.lookup a = some o ∧ o.cls = .type "list" ∧ o.dict = none ∧ o.data = .seq its n ∧ its.size ≤ sizeLine ∧ Vals xs its.toList
def SqT (K : PySem.W.Frag) (H : Hp) (a : Addr) (xs : List V) : Prop :=
  Rd H a (.tup xs) ∨
    ∃ (o : Obj) (its : Array Value) (n : Nat), K.lookup a = some o ∧ o.cls = .type "tuple" ∧ o.data = .seq its n ∧ its.size ≤ sizeLine ∧ Vals xs its.toList
def absV : Value → Option V
  | .none => some .non
  | .bool b => some (.bl b)
  | .int i _ => some (.int i)
  | .str x _ => some (.str x)
  | .bytes b _ => some (.byt b)
  | .float b _ => some (.flt b)
  | .ref a => some (.ref a)
  | .type n => some (.ty n)
  | _ => none
theorem RelV.abs {x : V} {u : Value} (r : RelV x u) : absV u = some x := by
  cases x with
  | non => cases r; rfl
  | bl _ => cases r; rfl
  | int _ => obtain ⟨t, rfl⟩ := r; rfl
  | str _ => obtain ⟨t, rfl⟩ := r; rfl
  | byt _ => obtain ⟨t, rfl⟩ := r; rfl
  | flt _ => obtain ⟨t, rfl⟩ := r; rfl
  | ref _ => cases r; rfl
  | ty _ => cases r; rfl
theorem RelV.inj {x y : V} {u : Value} (r : RelV x u) (q : RelV y u) : x = y := Option.some.inj (r.abs.symm.trans q.abs)
theorem Vals.inj : ∀ {xs ys : List V} {us : List Value}, Vals xs us → Vals ys us → xs = ys
  | _, _, _, .nil, .nil => rfl
  | _, _, _, .cons r t, .cons r' t' => by rw [r.inj r', Vals.inj t t']
section
variable {X : Cx} {pins : List (Addr × Obj)} {σ : St} {H : Hp} {s : Shared} {a : Addr} {xs ys : List V}
theorem SqL.of {K : PySem.W.Frag} (h : H a = some (.lst xs)) : SqL K H a xs := .inl (.inl h)
theorem SqT.of {K : PySem.W.Frag} (h : H a = some (.tup xs)) : SqT K H a xs := .inl (.inl h)
theorem Inv.list (I : Inv X pins σ H s) (h : SqL X.K H a xs) : ∃ its : List Value, Vals xs its ∧ PlainL s.heap a its.toArray ∧ xs.length ≤ sizeLine := by
  rcases h with h | ⟨o, its, n, hk, hc, hd, hs, hz, r⟩
  · obtain ⟨z, its, n, r, e⟩ := h.ok I.hok
    exact ⟨its, r, ⟨_, n, e, rfl, rfl, rfl⟩, z⟩
  · refine ⟨its.toList, r, ⟨o, n, I.kIn a o hk, hc, hd, by simpa using hs⟩, ?_⟩
    have e := r.length
    simp only [Array.length_toList] at e
    omega
theorem Inv.tuple (I : Inv X pins σ H s) (h : SqT X.K H a xs) : ∃ its : List Value, Vals xs its ∧ IsTup s.heap a its.toArray ∧ xs.length ≤ sizeLine := by
  rcases h with h | ⟨o, its, n, hk, hc, hs, hz, r⟩
  · obtain ⟨z, its, r, p⟩ := h.ok I.hok
    exact ⟨its, r, p, z⟩
  · refine ⟨its.toList, r, ⟨o, I.kIn a o hk, hc, n, by simpa using hs⟩, ?_⟩
    have e := r.length
    simp only [Array.length_toList] at e
    omega
theorem Inv.list_inj (I : Inv X pins σ H s) (h : SqL X.K H a xs) (h' : SqL X.K H a ys) : xs = ys := by
  obtain ⟨its, r, ⟨o, n, e, _, _, d⟩, _⟩ := I.list h
  obtain ⟨its', r', ⟨o', n', e', _, _, d'⟩, _⟩ := I.list h'
  rw [e] at e'; cases e'
  rw [d] at d'
  injection d' with d1 _
  have : its = its' := by simpa using congrArg Array.toList d1
  subst this
  exact r.inj r'
theorem Inv.tuple_inj (I : Inv X pins σ H s) (h : SqT X.K H a xs) (h' : SqT X.K H a ys) : xs = ys := by
  obtain ⟨its, r, ⟨o, e, _, n, d⟩, _⟩ := I.tuple h
  obtain ⟨its', r', ⟨o', e', _, n', d'⟩, _⟩ := I.tuple h'
  rw [e] at e'; cases e'
  rw [d] at d'
  injection d' with d1 _
  have : its = its' := by simpa using congrArg Array.toList d1
  subst this
  exact r.inj r'
end
abbrev Cx.wish (X : Cx) (E : Value → Shared → Prop) : Cx := { X with xe := E }
abbrev Cx.nox (X : Cx) : Cx := X.wish fun _ _ => False
theorem Cx.Ok.wish {X : Cx} (ok : X.Ok) (E : Value → Shared → Prop) : (X.wish E).Ok :=
  ⟨ok.mod, ok.kind, ok.glob, ok.blt, ok.above, ok.inj, ok.has, ok.cab, ok.hd, ok.frames, ok.stk, ok.exf, ok.bs, ok.bsz, ok.noex, ok.exfs, ok.funs, ok.frf⟩
theorem Cx.Ok.unwish {X : Cx} {E : Value → Shared → Prop} (ok : (X.wish E).Ok) : X.Ok :=
  ⟨ok.mod, ok.kind, ok.glob, ok.blt, ok.above, ok.inj, ok.has, ok.cab, ok.hd, ok.frames, ok.stk, ok.exf, ok.bs, ok.bsz, ok.noex, ok.exfs, ok.funs, ok.frf⟩
section
variable {X : Cx} {pins : List (Addr × Obj)} {σ : St} {H : Hp} {s : Shared} {E : Value → Shared → Prop}
theorem Inv.wish (I : Inv X pins σ H s) (E : Value → Shared → Prop) : Inv (X.wish E) pins σ H s := ⟨I.ok.wish E, I.os, I.bare, I.base, I.loc, I.cell, I.free, I.freeC, I.pin, I.hok, I.len⟩
theorem Inv.unwish (I : Inv (X.wish E) pins σ H s) : Inv X pins σ H s := ⟨I.ok.unwish, I.os, I.bare, I.base, I.loc, I.cell, I.free, I.freeC, I.pin, I.hok, I.len⟩
theorem SP.unwish {D : Ends} {f : Flow} {s' : Shared} (h : SP (X.wish E) pins D f s') : SP X pins D f s' := by
  cases f with
  | next => obtain ⟨σ', H', I, q⟩ := h; exact ⟨σ', H', I.unwish, q⟩
  | brk => obtain ⟨σ', H', I, q⟩ := h; exact ⟨σ', H', I.unwish, q⟩
  | cont => obtain ⟨σ', H', I, q⟩ := h; exact ⟨σ', H', I.unwish, q⟩
  | ret u => obtain ⟨v, σ', H', I, r, q⟩ := h; exact ⟨v, σ', H', I.unwish, r, q⟩
theorem PE.nox {e : Expr} {t : TE} (h : PE X.nox e t) : PE X e t := fun pins s σ H Q I hw =>
  wpAny_mono (h pins s σ H Q (I.wish _) hw) (fun _ _ ⟨v, H', I', r, q⟩ => ⟨v, H', I'.unwish, r, q⟩) fun _ _ z => False.elim z
theorem PT.nox {e : Expr} {t : TT} (h : PT X.nox e t) : PT X e t := fun pins s σ H Q I hw =>
  wpAny_mono (h pins s σ H Q (I.wish _) hw) (fun _ _ ⟨H', I', q⟩ => ⟨H', I'.unwish, q⟩) fun _ _ z => False.elim z
theorem PSs.nox {st : List Stmt} {t : TS} (h : PSs X.nox st t) : PSs X st t := fun pins s σ H D I hw =>
  wpAny_mono (h pins s σ H D (I.wish _) hw) (fun _ _ q => q.unwish) fun _ _ z => False.elim z
end
section
variable {X : Cx} {st : Stmt} {rest : List Stmt} {t u : TS} {e : Expr} {te : TE} {pos : Pos}
def tNext : TS := fun D σ H => D.nx σ H
def tSeq (t u : TS) : TS := fun D σ H => t { D with nx := u D } σ H
theorem pss_nil : PSs X [] tNext := fun _ _ σ H _ I h => wpAny_execs_nil ⟨σ, H, I, h⟩
theorem pss_cons (h1 : PS X st t) (h2 : PSs X rest u) : PSs X (st :: rest) (tSeq t u) := by
  intro pins s σ H D I h
  refine wpAny_execs_cons (thn (h1 pins s σ H { D with nx := u D } I h) fun f s1 q => ?_)
  cases f with
  | next =>
    obtain ⟨σ', H', I', q⟩ := q
    exact h2 pins s1 σ' H' D I' q
  | ret v => exact q
  | brk => exact q
  | cont => exact q
theorem pss_one (h1 : PS X st t) : PSs X [st] t := by
  intro pins s σ H D I h
  refine wpAny_execs_cons (thn (h1 pins s σ H D I h) fun f s1 q => ?_)
  cases f with
  | next => exact wpAny_execs_nil q
  | ret v => exact q
  | brk => exact q
  | cont => exact q
theorem Inv.quiet {pins : List (Addr × Obj)} {σ : St} {H : Hp} {s : Shared} (I : Inv X pins σ H s) : interactive X.env = false := by simp [interactive, I.ok.kind]
def tDrop (te : TE) : TS := fun D σ H => te σ H fun _ H1 => D.nx σ H1
theorem ps_expr (he : PE X e te) (hs : swapsWith e none pos.line X.env = pure false := by rfl) : PS X (.Expr e pos) (tDrop te) := by
  intro pins s σ H D I h
  exact wpAny_Expr_any (thn (he pins s σ H _ I h) fun v s1 ⟨x, H1, I1, r1, q1⟩ => ⟨σ, H1, I1, q1⟩) I.quiet hs
def tRet (te : TE) : TS := fun D σ H => te σ H D.rt
theorem ps_ret (he : PE X e te) : PS X (.Return (some e) pos) (tRet te) := by
  intro pins s σ H D I h
  exact wpAny_Return_some (thn (he pins s σ H _ I h) fun v s1 ⟨x, H1, I1, r1, q1⟩ => ⟨x, σ, H1, I1, r1, q1⟩)
def tRetN : TS := fun D _ H => D.rt .non H
def tIfS (c : TT) (t u : TS) : TS := fun D σ H => c σ H fun b H1 => if b = true then t D σ H1 else u D σ H1
theorem ps_if {c : Expr} {a b : List Stmt} {tc : TT} (hc : PT X c tc) (ha : PSs X a t) (hb : PSs X b u) : PS X (.If c a b pos) (tIfS tc t u) := by
  intro pins s σ H D I h
  refine wpAny_If (thn (hc pins s σ H _ I h) fun d s1 ⟨H1, I1, q1⟩ => ?_)
  cases d with
  | true => exact ha pins s1 σ H1 D I1 q1
  | false => exact hb pins s1 σ H1 D I1 q1
end
abbrev TG := V → St → Hp → (St → Hp → Prop) → Prop
abbrev TGs := List V → St → Hp → (St → Hp → Prop) → Prop
def PG (X : Cx) (target : Expr) (t : TG) : Prop :=
  ∀ (pins : List (Addr × Obj)) (s : Shared) (σ : St) (H : Hp) (v : V) (u : Value) (Q : St → Hp → Prop), Inv X pins σ H s → RelV v u → t v σ H Q →
    wpAny (model X.prog X.w) X.A (assign target X.env u) (fun _ s' => ∃ σ' H', Inv X pins σ' H' s' ∧ Q σ' H') X.xe s
def PGs (X : Cx) (ts : List Expr) (t : TGs) : Prop :=
  ∀ (pins : List (Addr × Obj)) (s : Shared) (σ : St) (H : Hp) (vs : List V) (us : List Value) (Q : St → Hp → Prop), Inv X pins σ H s → Vals vs us → t vs σ H Q →
    wpAny (model X.prog X.w) X.A (assignInOrder ((assignEach ts X.env).map (·.2)) us) (fun _ s' => ∃ σ' H', Inv X pins σ' H' s' ∧ Q σ' H') X.xe s
abbrev TSet := V → V → V → Hp → (Hp → Prop) → Prop
section
variable {X : Cx} {pos : Pos}
def gName (i : Nat) : TG := fun v σ H Q => Q (σ.set i (some v)) H
theorem pg_name {i : Nat} {x : Str} (hN : X.N.Nodup) (hi : X.N[i]? = some x) (hx : Loc X.env.scope x) (hf : X.fn x = true ∨ X.env.scope.names.lookup x = some .local := by first | exact .inl rfl | exact .inr rfl | assumption) : PG X (.Name x pos) (gName i) := by
  intro pins s σ H v u Q I r h
  exact wpAny_assign_Name (store_ok I hN hi hx r (fun s' I' => ⟨_, H, I', h⟩) hf)
def gNil : TGs := fun vs σ H Q => vs = [] ∧ Q σ H
def gCons (t : TG) (u : TGs) : TGs := fun vs σ H Q => ∃ v r, vs = v :: r ∧ t v σ H fun σ' H' => u r σ' H' Q
theorem pgs_nil : PGs X [] gNil := by
  intro pins s σ H vs us Q I r h
  obtain ⟨e, h⟩ := h
  subst e
  cases r
  exact assignInOrder_nil ⟨σ, H, I, h⟩
theorem pgs_cons {e : Expr} {es : List Expr} {t : TG} {u : TGs} (h1 : PG X e t) (h2 : PGs X es u)
    (hs : (assignEach (e :: es) X.env).map (·.2) = assign e X.env :: (assignEach es X.env).map (·.2) := by rfl) : PGs X (e :: es) (gCons t u) := by
  intro pins s σ H vs us Q I r h
  obtain ⟨v, vr, e1, h⟩ := h
  subst e1
  cases r with
  | cons r rr =>
    rw [hs]
    refine assignInOrder_cons (thn (h1 pins s σ H _ _ _ I r h) fun _ s1 ⟨σ1, H1, I1, q1⟩ => ?_)
    exact h2 pins s1 σ1 H1 _ _ Q I1 rr q1
def gTup (K : PySem.W.Frag) (n : Nat) (t : TGs) : TG := fun v σ H Q => ∃ a xs, v = .ref a ∧ SqT K H a xs ∧ xs.length = n ∧ t xs σ H Q
theorem pg_tup {es : List Expr} {k : Nat} {t : TGs} {n : Nat} (hc : X.calm = true) (h : PGs X es t)
    (hn : (assignEach es X.env).length = n := by rfl) (hst : (assignEach es X.env).findIdx? (·.1) = none := by rfl) : PG X (.Tuple es k pos) (gTup X.K n t) := by
  intro pins s σ H v u Q I r hw
  obtain ⟨a, xs, e1, hq, hl, hw⟩ := hw
  subst e1
  cases r
  obtain ⟨its, rv, ht, hz⟩ := I.tuple hq
  refine assign_Tuple_tuple (I.ok.hd hc) ht (by simp [hn, ← hl, rv.length]) hst fun h' hx => ?_
  have I1 : Inv X pins σ H { s with heap := h' } := I.kept (t' := s.toks) fun b o e => hx b o (Nat.ne_of_lt (Heap.lt_size e)) e
  exact h pins _ σ H xs _ Q I1 (by simpa using rv) hw
def gSub (to ti : TE) (t : TSet) : TG := fun v σ H Q => to σ H fun o H1 => ti σ H1 fun i H2 => t o i v H2 fun H3 => Q σ H3
def tAsg (te : TE) (g : TG) : TS := fun D σ H => te σ H fun x H1 => g x σ H1 D.nx
theorem ps_set {i : Nat} {x : Str} {e : Expr} {te : TE} {pos' : Pos} (hN : X.N.Nodup) (hi : X.N[i]? = some x) (hx : Loc X.env.scope x) (he : PE X e te) (hs : swapsWith e (some (.Name x pos')) pos.line X.env = pure false := by rfl) (hf : X.fn x = true ∨ X.env.scope.names.lookup x = some .local := by first | exact .inl rfl | exact .inr rfl | assumption) :
    PS X (.Assign [.Name x pos'] e pos) (tAsg te (gName i)) := by
  intro pins s σ H D I h
  refine wpAny_Assign_Name (thn (he pins s σ H _ I h) fun v s1 ⟨y, H1, I1, r1, q1⟩ => ?_) hs
  exact store_ok I1 hN hi hx r1 (fun s2 I2 => ⟨_, H1, I2, q1⟩) hf
def tPar (i j : Nat) (ta : TA) : TS := fun D σ H => ta σ H fun vs H1 => ∃ v w, vs = [v, w] ∧ D.nx ((σ.set i (some v)).set j (some w)) H1
end
section
variable {X : Cx} {pos : Pos}
def tWhile (c : TT) (tb : TS) : TS := fun D σ H => ∃ W : Nat → St → Hp → Prop, (∃ m, W m σ H) ∧ ∀ m σ H, W m σ H →
  c σ H fun b H1 => if b = true then ∃ N : St → Hp → Prop, (∀ σ' H', N σ' H' → ∃ m', m' < m ∧ W m' σ' H') ∧ tb { D with nx := N, ct := N, bk := D.nx } σ H1 else D.nx σ H1
theorem ps_while {c : Expr} {body : List Stmt} {tc : TT} {tb : TS} (hp : PassesOwn (model X.prog X.w) X.A X.env X.xe) (hc : PT X c tc) (hb : PSs X body tb) : PS X (.While c body [] pos) (tWhile tc tb) := by
  intro pins s σ H D I h
  obtain ⟨W, ⟨m0, w0⟩, turn⟩ := h
  refine wpAny_While (codeAny_whileLoop (fun n s' => ∃ σ' H', Inv X pins σ' H' s' ∧ W n σ' H') ?_ m0 ⟨σ, H, I, w0⟩)
  rintro n s1 ⟨σ1, H1, I1, w1⟩
  refine wpAny_passesOwn hp (thn (hc pins s1 σ1 H1 _ I1 (turn n σ1 H1 w1)) fun b s2 ⟨H2, I2, q2⟩ => ?_)
  cases b with
  | true =>
    obtain ⟨N, hN, q2⟩ := q2
    rw [if_pos rfl]
    refine wpAny_passesOwn hp (thn (hb pins s2 σ1 H2 _ I2 q2) fun f s3 q3 => ?_)
    cases f with
    | next =>
      obtain ⟨σ3, H3, I3, n3⟩ := q3
      obtain ⟨m', hm, w3⟩ := hN σ3 H3 n3
      exact ⟨m', hm, σ3, H3, I3, w3⟩
    | cont =>
      obtain ⟨σ3, H3, I3, n3⟩ := q3
      obtain ⟨m', hm, w3⟩ := hN σ3 H3 n3
      exact ⟨m', hm, σ3, H3, I3, w3⟩
    | brk => exact q3
    | ret v => exact q3
  | false =>
    rw [if_neg Bool.false_ne_true]
    exact wpAny_execs_nil ⟨σ1, H2, I2, q2⟩
end
structure It where
  go : Nat → Hp → Prop
  yld : Nat → Hp → V → Hp → Prop
  stop : Nat → Hp → Prop
def FpOk (X : Cx) (pins : List (Addr × Obj)) (H : Hp) (b : Addr) : Prop :=
  H b = none ∧ b ≠ X.env.locals ∧ b ∉ X.fs ∧ (b ∈ X.ex ∨ X.s₀.heap.objs.size ≤ b) ∧ (∀ x c, X.env.cells.lookup x = some c → c ≠ b) ∧ ∀ p ∈ X.pn ++ pins, p.1 ≠ b
theorem Inv.fpOk {X : Cx} {pins : List (Addr × Obj)} {σ : St} {H H' : Hp} {s : Shared} {b : Addr} (I : Inv X pins σ H s) (hb : s.heap.objs.size ≤ b) (hn : H' b = none) : FpOk X pins H' b := by
  refine ⟨hn, Nat.ne_of_gt (Nat.lt_of_lt_of_le I.lt hb), I.nofs hb, .inr (Nat.le_trans I.sz hb), fun x c e z => ?_, fun p hp z => ?_⟩
  · obtain ⟨v, q⟩ := I.cell x c e
    exact absurd (Nat.lt_of_lt_of_le q.lt (by rw [z]; exact hb)) (Nat.lt_irrefl _)
  · exact absurd (Nat.lt_of_lt_of_le (Heap.lt_size (I.pin p hp).1) (by rw [z]; exact hb)) (Nat.lt_irrefl _)
structure Turn (P : Program) (w : World) (K : PySem.W.Frag) (tg : Expr) (J : It) (fp : List Addr) (it : Addr) (tn : Nat → Heap → Prop) : Prop where
  mem : it ∈ fp
  obj : ∀ i h, tn i h → ∀ b ∈ fp, ∃ o, h.get? b = some o ∧ ∀ v, o.data ≠ .cell v
  keep : ∀ i h h', tn i h → (∀ b ∈ fp, ∀ o, h.get? b = some o → h'.get? b = some o) → tn i h'
  item : ∀ (X : Cx), X.prog = P → X.w = w → X.K = K → X.calm = true → ∀ (i : Nat) (pins : List (Addr × Obj)) (s : Shared) (σ : St) (H : Hp) (E : Value → Shared → Prop), Inv X pins σ H s → (∀ b ∈ fp, FpOk X pins H b) → tn i s.heap → J.go i H →
    wpAny (model P w) X.A (pyNext (.ref it)) (fun r s1 => ∃ u, r = some u ∧
      wpAny (model P w) X.A (letOwnedTupleGo tg (.ref it) u) (fun _ s2 => ∃ x H', Inv X pins σ H' s2 ∧ RelV x u ∧ J.yld i H x H' ∧ tn (i + 1) s2.heap ∧ ∀ b ∈ fp, H' b = none) E s1) E s
  done : ∀ (X : Cx), X.prog = P → X.w = w → X.K = K → X.calm = true → ∀ (i : Nat) (pins : List (Addr × Obj)) (s : Shared) (σ : St) (H : Hp) (E : Value → Shared → Prop), Inv X pins σ H s → (∀ b ∈ fp, FpOk X pins H b) → tn i s.heap → J.stop i H →
    wpAny (model P w) X.A (pyNext (.ref it)) (fun r s1 => r = none ∧ Inv X pins σ H s1) E s
  self : ∀ (A : Around) (i : Nat) (s : Shared) (Q : Value → Shared → Prop) (E : Value → Shared → Prop), tn i s.heap → Q (.ref it) s → wpAny (model P w) A (pyIter (.ref it)) Q E s
abbrev TI := St → Hp → (It → Hp → Prop) → Prop
def PIE (X : Cx) (pins : List (Addr × Obj)) (σ : St) (tg : Expr) (R : It → Hp → Prop) (itv : Value) (s2 : Shared) : Prop :=
  ∃ (it : Addr) (fp : List Addr) (tn : Nat → Heap → Prop) (J : It) (H' : Hp), itv = .ref it ∧ Inv X pins σ H' s2 ∧ Turn X.prog X.w X.K tg J fp it tn ∧ tn 0 s2.heap ∧ (∀ b ∈ fp, FpOk X pins H' b) ∧ R J H'
def PI (X : Cx) (tg iter : Expr) (wi : TI) : Prop :=
  ∀ (pins : List (Addr × Obj)) (s : Shared) (σ : St) (H : Hp) (R : It → Hp → Prop), Inv X pins σ H s → wi σ H R →
    wpAny (model X.prog X.w) X.A (eval iter X.env) (fun v s1 => wpAny (model X.prog X.w) X.A (pyIter v) (PIE X pins σ tg R) X.xe s1) X.xe s
theorem go_of {M : Model} {A : Around} {E : Value → Shared → Prop} {s : Shared} {tg : Expr} {it : Addr} {u : Value} {o : Obj} {n : String} {vs : Array Value} {Q : Unit → Shared → Prop} (ho : s.heap.get? it = some o) (hc : o.cls = .type n) (hd : o.data = .fields vs)
    (hn : ["enumerate", "zip", "dict_itemiterator", "dict_reverseitemiterator", "odict_iterator", "itertools.zip_longest", "itertools.pairwise"].contains n = false) (hQ : Q () s) : wpAny M A (letOwnedTupleGo tg (.ref it) u) Q E s := by
  unfold letOwnedTupleGo
  cases tg <;> first
    | exact wpAny_pure hQ
    | (cases u <;> first
        | exact wpAny_pure hQ
        | (refine wpAny_bind (wpAny_load ho ?_)
           rw [hc, hd]
           show wpAny M A (if (["enumerate", "zip", "dict_itemiterator", "dict_reverseitemiterator", "odict_iterator", "itertools.zip_longest", "itertools.pairwise"].contains n && vs[0]? == some (rawInt _)) = true then _ else _) Q E s
           rw [if_neg (by intro h; rw [hn, Bool.false_and] at h; cases h)]
           exact wpAny_pure hQ))
def Itl (K : PySem.W.Frag) (a : Addr) : It :=
  ⟨fun i H => ∃ xs x, SqL K H a xs ∧ xs[i]? = some x, fun i H x H' => H' = H ∧ ∀ xs, SqL K H a xs → xs[i]? = some x, fun i H => ∃ xs, SqL K H a xs ∧ xs.length ≤ i⟩
def Itt (K : PySem.W.Frag) (a : Addr) : It :=
  ⟨fun i H => ∃ xs x, SqT K H a xs ∧ xs[i]? = some x, fun i H x H' => H' = H ∧ ∀ xs, SqT K H a xs → xs[i]? = some x, fun i H => ∃ xs, SqT K H a xs ∧ xs.length ≤ i⟩
def Itr (lo : Int) (n : Nat) : It := ⟨fun i _ => i < n, fun i H x H' => H' = H ∧ x = .int (lo + i), fun i _ => n ≤ i⟩
theorem turn_list {P : Program} {w : World} {K : PySem.W.Frag} {tg : Expr} (a it : Addr) : Turn P w K tg (Itl K a) [it] it (fun i h => h.IsListIter it a i) where
  mem := by simp
  obj := fun i h st b hb => by
    have e : b = it := by simpa using hb
    subst e
    obtain ⟨o, e, c, d⟩ := st
    exact ⟨o, e, fun v z => by rw [d] at z; cases z⟩
  keep := fun i h h' st k => st.at fun o e => k it (by simp) o e
  item := by
    intro X hP hw hK hc i pins s σ H E I hf st hg
    subst hP hw hK
    obtain ⟨xs, x, hq, hx⟩ := hg
    obtain ⟨its, rv, p, hz⟩ := I.list hq
    obtain ⟨u, hu, ru⟩ := rv.get hx
    obtain ⟨f0, f1, f2, f3, f4, f5⟩ := hf it (by simp)
    refine wpAny_pyNext_list_item st p.isList (x := u) (by simpa using hu) fun h' st' sb => ?_
    have I1 : Inv X pins σ H { s with heap := h' } := I.turned (t' := s.toks) (fun b o hb e => (sb.2 b hb).trans e) f0 f1 f3 f4 f5
    obtain ⟨o, e, c, d⟩ := id st'
    exact ⟨u, rfl, go_of (s := { s with heap := h' }) e c d (by decide) ⟨x, H, I1, ru, ⟨rfl, fun ys hy => by rw [I.list_inj hy hq]; exact hx⟩, st', fun b hb => (hf b hb).1⟩⟩
  done := by
    intro X hP hw hK hc i pins s σ H E I hf st hg
    subst hP hw hK
    obtain ⟨xs, hq, hx⟩ := hg
    obtain ⟨its, rv, p, hz⟩ := I.list hq
    obtain ⟨f0, f1, f2, f3, f4, f5⟩ := hf it (by simp)
    have hl := rv.length
    exact wpAny_pyNext_list_end (I.ok.hd hc) st p.isList (by simp; omega) fun h' eb => ⟨rfl, I.turned (t' := s.toks) (fun b o hb e => eb b o hb e) f0 f1 f3 f4 f5⟩
  self := fun _ _ _ _ _ st h => wpAny_pyIter_listiter st h
theorem turn_tuple {P : Program} {w : World} {K : PySem.W.Frag} {tg : Expr} (a it : Addr) : Turn P w K tg (Itt K a) [it] it (fun i h => h.IsTupleIter it a i) where
  mem := by simp
  obj := fun i h st b hb => by
    have e : b = it := by simpa using hb
    subst e
    obtain ⟨o, e, c, d⟩ := st
    exact ⟨o, e, fun v z => by rw [d] at z; cases z⟩
  keep := fun i h h' st k => st.at fun o e => k it (by simp) o e
  item := by
    intro X hP hw hK hc i pins s σ H E I hf st hg
    subst hP hw hK
    obtain ⟨xs, x, hq, hx⟩ := hg
    obtain ⟨its, rv, p, hz⟩ := I.tuple hq
    obtain ⟨u, hu, ru⟩ := rv.get hx
    obtain ⟨f0, f1, f2, f3, f4, f5⟩ := hf it (by simp)
    refine wpAny_pyNext_tuple_item st (show s.heap.IsTuple a its.toArray from p) (x := u) (by simpa using hu) fun h' st' sb => ?_
    have I1 : Inv X pins σ H { s with heap := h' } := I.turned (t' := s.toks) (fun b o hb e => (sb.2 b hb).trans e) f0 f1 f3 f4 f5
    obtain ⟨o, e, c, d⟩ := id st'
    exact ⟨u, rfl, go_of (s := { s with heap := h' }) e c d (by decide) ⟨x, H, I1, ru, ⟨rfl, fun ys hy => by rw [I.tuple_inj hy hq]; exact hx⟩, st', fun b hb => (hf b hb).1⟩⟩
  done := by
    intro X hP hw hK hc i pins s σ H E I hf st hg
    subst hP hw hK
    obtain ⟨xs, hq, hx⟩ := hg
    obtain ⟨its, rv, p, hz⟩ := I.tuple hq
    obtain ⟨f0, f1, f2, f3, f4, f5⟩ := hf it (by simp)
    have hl := rv.length
    exact wpAny_pyNext_tuple_end (I.ok.hd hc) st (show s.heap.IsTuple a its.toArray from p) (by simp; omega) fun h' eb => ⟨rfl, I.turned (t' := s.toks) (fun b o hb e => eb b o hb e) f0 f1 f3 f4 f5⟩
  self := fun _ _ _ _ _ st h => wpAny_pyIter_tupleiter st h
theorem turn_range {P : Program} {w : World} {K : PySem.W.Frag} {tg : Expr} (it : Addr) (lo : Int) (n : Nat) : Turn P w K tg (Itr lo n) [it] it (fun i h => IsRangeIter h it (lo + (i : Nat) * 1) ((n : Int) - (i : Nat)) 1) where
  mem := by simp
  obj := fun i h st b hb => by
    have e : b = it := by simpa using hb
    subst e
    exact ⟨_, st, fun v z => by
      have z' : Data.fields _ = Data.cell v := z
      cases z'⟩
  keep := fun i h h' st k => k it (by simp) _ st
  item := by
    intro X hP hw hK hc i pins s σ H E I hf st hg
    subst hP hw hK
    obtain ⟨f0, f1, f2, f3, f4, f5⟩ := hf it (by simp)
    have W := Walks.range (prog := X.prog) (w := X.w) (I.ok.hd hc) it lo 1 n
    refine W.item i s _ _ hg st fun v h' tk hv st' kk => ?_
    obtain ⟨t, rfl⟩ := hv
    have I1 : Inv X pins σ H { s with heap := h', toks := tk } := I.turned (fun b o hb e => kk b o (by simpa using hb) e) f0 f1 f3 f4 f5
    refine ⟨_, rfl, go_of (s := { s with heap := h', toks := tk }) (n := "range_iterator") st' rfl rfl (by decide) ⟨.int (lo + i), H, I1, ⟨t, ?_⟩, ⟨rfl, rfl⟩, st', fun b hb => (hf b hb).1⟩⟩
    rw [Int.mul_one]
  done := by
    intro X hP hw hK hc i pins s σ H E I hf st hg
    subst hP hw hK
    obtain ⟨f0, f1, f2, f3, f4, f5⟩ := hf it (by simp)
    exact wpAny_pyNext_range_end (I.ok.hd hc) st (by have : n ≤ i := hg; omega) fun h' eb => ⟨rfl, I.turned (t' := s.toks) (fun b o hb e => eb b o hb e) f0 f1 f3 f4 f5⟩
  self := fun _ _ _ _ _ st h => wpAny_pyIter_rangeiter st h
end L2
namespace L2
open PySem PySem.Spec PyProof.Rows
section
variable {X : Cx} {tg : Expr}
def iList (K : PySem.W.Frag) (tl : TE) : TI := fun σ H R => tl σ H fun x H1 => ∃ a, x = .ref a ∧ (∃ xs, SqL K H1 a xs) ∧ R (Itl K a) H1
def iTup (K : PySem.W.Frag) (tl : TE) : TI := fun σ H R => tl σ H fun x H1 => ∃ a, x = .ref a ∧ (∃ xs, SqT K H1 a xs) ∧ R (Itt K a) H1
theorem pi_list {l : Expr} {tl : TE} (hl : PE X l tl) : PI X tg l (iList X.K tl) := by
  intro pins s σ H R I h
  refine thn (hl pins s σ H _ I h) fun v s1 ⟨x, H1, I1, r1, q1⟩ => ?_
  obtain ⟨a, e, ⟨xs, hq⟩, q⟩ := q1
  subst e
  cases r1
  obtain ⟨its, rv, p, hz⟩ := I1.list hq
  refine wpAny_pyIter_list p.isList ?_
  refine ⟨s1.heap.objs.size, [s1.heap.objs.size], _, _, H1, rfl, I1.kept (t' := s1.toks) fun b o e => Heap.get?_push_of_some _ e, turn_list a _, ⟨_, Heap.get?_push_size _ rfl, rfl, rfl⟩, fun b hb => ?_, q⟩
  have e : b = s1.heap.objs.size := by simpa using hb
  subst e
  exact I1.fpOk (Nat.le_refl _) (I1.hok.fresh (Nat.le_refl _))
theorem pi_tup {l : Expr} {tl : TE} (hl : PE X l tl) : PI X tg l (iTup X.K tl) := by
  intro pins s σ H R I h
  refine thn (hl pins s σ H _ I h) fun v s1 ⟨x, H1, I1, r1, q1⟩ => ?_
  obtain ⟨a, e, ⟨xs, hq⟩, q⟩ := q1
  subst e
  cases r1
  obtain ⟨its, rv, p, hz⟩ := I1.tuple hq
  refine wpAny_pyIter_tuple (show s1.heap.IsTuple a its.toArray from p) ?_
  refine ⟨s1.heap.objs.size, [s1.heap.objs.size], _, _, H1, rfl, I1.kept (t' := s1.toks) fun b o e => Heap.get?_push_of_some _ e, turn_tuple a _, ⟨_, Heap.get?_push_size _ rfl, rfl, rfl⟩, fun b hb => ?_, q⟩
  have e : b = s1.heap.objs.size := by simpa using hb
  subst e
  exact I1.fpOk (Nat.le_refl _) (I1.hok.fresh (Nat.le_refl _))
theorem range_it {pins : List (Addr × Obj)} {σ : St} {H : Hp} {s : Shared} {R : It → Hp → Prop} {E : Value → Shared → Prop} {lo hi : Int} {t u v : Tok} {tk : Nat} (I : Inv X pins σ H s) (h1 : -(2 ^ 62) ≤ lo) (h2 : lo < 2 ^ 62) (h3 : -(2 ^ 62) ≤ hi) (h4 : hi < 2 ^ 62)
    (q : R (Itr lo (hi - lo).toNat) H) : wpAny (model X.prog X.w) X.A (pyIter (.ref s.heap.objs.size)) (PIE X pins σ tg R) E { s with heap := s.heap.push { cls := .type "range", data := .fields #[.int lo t, .int hi u, .int 1 v] }, toks := tk } := by
  refine wpAny_pyIter_range (IsRange.new ..) (small_one h1 h2 h3 h4) ?_
  have I1 : Inv X pins σ H { s with heap := s.heap.push { cls := .type "range", data := .fields #[.int lo t, .int hi u, .int 1 v] }, toks := tk } := I.kept fun b o e => Heap.get?_push_of_some _ e
  refine ⟨(s.heap.push { cls := .type "range", data := .fields #[.int lo t, .int hi u, .int 1 v] }).objs.size, [(s.heap.push { cls := .type "range", data := .fields #[.int lo t, .int hi u, .int 1 v] }).objs.size], _, _, H, rfl,
    I1.kept (t' := tk) fun b o e => Heap.get?_push_of_some _ e, turn_range _ lo (hi - lo).toNat, ?_, fun b hb => ?_, q⟩
  · have e1 : lo + ((0 : Nat) : Int) * 1 = lo := by simp
    have e2 : (((hi - lo).toNat : Nat) : Int) - ((0 : Nat) : Int) = Builtin.Range.rangeSize lo hi 1 := by rw [rangeSize_one]; split <;> omega
    show IsRangeIter _ _ (lo + ((0 : Nat) : Int) * 1) ((((hi - lo).toNat : Nat) : Int) - ((0 : Nat) : Int)) 1
    rw [e1, e2]
    exact Heap.get?_push_size _ rfl
  · have e : b = (s.heap.push { cls := .type "range", data := .fields #[.int lo t, .int hi u, .int 1 v] }).objs.size := by simpa using hb
    subst e
    exact I1.fpOk (Nat.le_refl _) (I1.hok.fresh (Nat.le_refl _))
def iRng1 (ta : TA) : TI := fun σ H R => ta σ H fun vs H1 => ∃ j : Int, vs = [.int j] ∧ -(2 ^ 62) ≤ j ∧ j < 2 ^ 62 ∧ R (Itr 0 j.toNat) H1
theorem pi_range1 {a : Expr} {ta : TA} {p pos : Pos} (hg : Gl X "range") (hm : X.mg "range" = none) (ha : PA X [a] ta) (hs : starEach [a] X.env = [(false, eval a X.env)] := by rfl) : PI X tg (.Call (.Name "range" p) [a] [] pos) (iRng1 ta) := by
  intro pins s σ H R I h
  refine Call_ (ld_blt I hg hm boot_range (PyProof.Rows.callWith_type1 (thn (ha pos pins s σ H _ I h) fun us s1 ⟨vs, H1, I1, r1, q1⟩ => ?_) hs rfl))
  obtain ⟨j, e, q1, q2, q⟩ := q1
  subst e
  cases r1 with
  | cons r rr =>
    cases rr
    obtain ⟨t, rfl⟩ := r
    exact call_range_1 (range_it I1 (by omega) (by omega) q1 q2 (by simpa using q))
def tFor (wi : TI) (g : TG) (tb : TS) : TS := fun D σ H => wi σ H fun J H1 => ∃ W : Nat → Nat → St → Hp → Prop, (∃ m, W 0 m σ H1) ∧ ∀ i m σ H, W i m σ H →
  (J.stop i H ∧ D.nx σ H) ∨ (J.go i H ∧ ∃ N : St → Hp → Prop, (∀ σ' H', N σ' H' → ∃ m', m' < m ∧ W (i + 1) m' σ' H') ∧ ∀ x H', J.yld i H x H' → g x σ H' fun σ2 H2 => tb { D with nx := N, ct := N, bk := D.nx } σ2 H2)
def pinsAt (fp : List Addr) (h : Heap) : List (Addr × Obj) := fp.filterMap fun b => (h.get? b).map fun o => (b, o)
theorem mem_pinsAt {fp : List Addr} {h : Heap} {b : Addr} {o : Obj} (hb : b ∈ fp) (e : h.get? b = some o) : (b, o) ∈ pinsAt fp h := List.mem_filterMap.mpr ⟨b, hb, by rw [e]; rfl⟩
theorem of_pinsAt {fp : List Addr} {h : Heap} {p : Addr × Obj} (hp : p ∈ pinsAt fp h) : p.1 ∈ fp ∧ h.get? p.1 = some p.2 := by
  obtain ⟨b, hb, e⟩ := List.mem_filterMap.mp hp
  cases q : h.get? b with
  | none => rw [q] at e; cases e
  | some o =>
    rw [q] at e
    have e' : (b, o) = p := Option.some.inj e
    subst e'
    exact ⟨hb, q⟩
theorem Inv.pinned {pins : List (Addr × Obj)} {σ : St} {H : Hp} {s : Shared} {fp : List Addr} (I : Inv X pins σ H s) (hf : ∀ b ∈ fp, FpOk X pins H b) (ho : ∀ b ∈ fp, ∃ o, s.heap.get? b = some o ∧ ∀ v, o.data ≠ .cell v) : Inv X (pins ++ pinsAt fp s.heap) σ H s :=
  I.pins_of fun p hp => (List.mem_append.mp hp).elim (fun z => I.pin p (List.mem_append_right _ z)) fun z => by
    obtain ⟨hb, e⟩ := of_pinsAt z
    obtain ⟨f0, f1, f2, _⟩ := hf p.1 hb
    obtain ⟨o, e', d⟩ := ho p.1 hb
    rw [e] at e'; cases e'
    exact ⟨e, f0, f1, f2, d⟩
theorem Inv.unpinned {pins pl : List (Addr × Obj)} {σ : St} {H : Hp} {s : Shared} (I : Inv X (pins ++ pl) σ H s) : Inv X pins σ H s := I.pins_of fun p hp => I.pin p (List.mem_append_right _ (List.mem_append_left _ hp))
theorem ps_for {iter : Expr} {body : List Stmt} {wi : TI} {g : TG} {tb : TS} {pos : Pos} (hp : PassesOwn (model X.prog X.w) X.A X.env X.xe) (hc : X.calm = true) (hi : PI X tg iter wi) (hg : PG X tg g) (hb : PSs X body tb)
    (hs : ∀ x, foldedSetIterable iter X.env x = pure x := by intro _; rfl) : PS X (.For tg iter body [] pos) (tFor wi g tb) := by
  intro pins s σ H D I h
  refine wpAny_For (thn (hi pins s σ H _ I h) fun v s1 h1 => thn h1 fun itv s2 h2 => ?_) hs
  obtain ⟨it, fp, tn, J, H2, e, I2, T, st2, f2, W, ⟨m0, w0⟩, turn⟩ := h2
  subst e
  -- what stays true of the iterator's objects through the loop
  have stat : ∀ {H' : Hp}, (∀ b ∈ fp, H' b = none) → ∀ b ∈ fp, FpOk X pins H' b := fun hn b hb => ⟨hn b hb, (f2 b hb).2⟩
  refine codeAny_forLoop_any (fun n s' => ∃ i σ' H', Inv X pins σ' H' s' ∧ tn i s'.heap ∧ (∀ b ∈ fp, H' b = none) ∧ W i n σ' H') ?_ m0 ⟨0, σ, H2, I2, st2, fun b hb => (f2 b hb).1, w0⟩
  rintro n s3 ⟨i, σ3, H3, I3, st3, fr3, w3⟩
  rcases turn i n σ3 H3 w3 with ⟨stop, qn⟩ | ⟨go, N, hN, step⟩
  · refine wpAny_passesOwn hp (thn (T.done X rfl rfl rfl hc i pins s3 σ3 H3 X.xe I3 (stat fr3) st3 stop) fun r s4 ⟨hr, I4⟩ => ?_)
    subst hr
    exact wpAny_execs_nil ⟨σ3, H3, I4, qn⟩
  · refine wpAny_passesOwn hp (thn (T.item X rfl rfl rfl hc i pins s3 σ3 H3 X.xe I3 (stat fr3) st3 go) fun r s4 ⟨u, hr, h4⟩ => ?_)
    subst hr
    refine wpAny_passesOwn hp (thn h4 fun _ s5 ⟨x, H5, I5, r5, y5, st5, fr5⟩ => ?_)
    have I5' := I5.pinned (stat fr5) (T.obj _ _ st5)
    refine wpAny_passesOwn hp (thn (hg _ s5 σ3 H5 x u _ I5' r5 (step x H5 y5)) fun _ s6 ⟨σ6, H6, I6, q6⟩ => ?_)
    refine wpAny_passesOwn hp (thn (hb _ s6 σ6 H6 _ I6 q6) fun f s7 q7 => ?_)
    have again : ∀ {σ7 : St} {H7 : Hp}, Inv X (pins ++ pinsAt fp s5.heap) σ7 H7 s7 → N σ7 H7 → ∃ m, m < n ∧ ∃ i σ' H', Inv X pins σ' H' s7 ∧ tn i s7.heap ∧ (∀ b ∈ fp, H' b = none) ∧ W i m σ' H' := fun {σ7 H7} I7 n7 => by
      obtain ⟨m', hm, w7⟩ := hN σ7 H7 n7
      refine ⟨m', hm, i + 1, σ7, H7, I7.unpinned, T.keep _ _ _ st5 fun b hb o e => (I7.pin (b, o) (List.mem_append_right _ (List.mem_append_right _ (mem_pinsAt hb e)))).1, fun b hb => ?_, w7⟩
      obtain ⟨o, e, d⟩ := T.obj _ _ st5 b hb
      exact (I7.pin (b, o) (List.mem_append_right _ (List.mem_append_right _ (mem_pinsAt hb e)))).2.1
    cases f with
    | next => obtain ⟨σ7, H7, I7, n7⟩ := q7; exact again I7 n7
    | cont => obtain ⟨σ7, H7, I7, n7⟩ := q7; exact again I7 n7
    | brk => obtain ⟨σ7, H7, I7, q7⟩ := q7; exact ⟨σ7, H7, I7.unpinned, q7⟩
    | ret v => obtain ⟨x7, σ7, H7, I7, r7, q7⟩ := q7; exact ⟨x7, σ7, H7, I7.unpinned, r7, q7⟩
end
theorem for_list {K : PySem.W.Frag} {a : Addr} {xs : List V} {g : TG} {tb : TS} {D : Ends} {σ : St} {H : Hp} (Pv : Nat → St → Hp → Prop) (h0 : Pv 0 σ H) (hl : ∀ i σ H, i ≤ xs.length → Pv i σ H → SqL K H a xs)
    (hs : ∀ i x σ H, xs[i]? = some x → Pv i σ H → g x σ H fun σ2 H2 => tb { D with nx := Pv (i + 1), ct := Pv (i + 1), bk := D.nx } σ2 H2) (hd : ∀ σ H, Pv xs.length σ H → D.nx σ H) :
    ∃ W : Nat → Nat → St → Hp → Prop, (∃ m, W 0 m σ H) ∧ ∀ i m σ H, W i m σ H →
      ((Itl K a).stop i H ∧ D.nx σ H) ∨ ((Itl K a).go i H ∧ ∃ N : St → Hp → Prop, (∀ σ' H', N σ' H' → ∃ m', m' < m ∧ W (i + 1) m' σ' H') ∧ ∀ x H', (Itl K a).yld i H x H' → g x σ H' fun σ2 H2 => tb { D with nx := N, ct := N, bk := D.nx } σ2 H2) := by
  refine ⟨fun i m σ H => m = xs.length - i ∧ i ≤ xs.length ∧ Pv i σ H, ⟨xs.length, by simp, Nat.zero_le _, h0⟩, ?_⟩
  rintro i m σ H ⟨rfl, hi, p⟩
  have q := hl i σ H hi p
  by_cases hlt : i < xs.length
  · refine .inr ⟨⟨xs, xs[i], q, by simp [hlt]⟩, Pv (i + 1), fun σ' H' p' => ⟨xs.length - (i + 1), by omega, rfl, hlt, p'⟩, fun x H' y => ?_⟩
    obtain ⟨e, y⟩ := y
    subst e
    exact hs i x σ _ (y xs q) p
  · have e : i = xs.length := by omega
    subst e
    exact .inl ⟨⟨xs, q, Nat.le_refl _⟩, hd σ H p⟩
theorem for_range {lo : Int} {n : Nat} {g : TG} {tb : TS} {D : Ends} {σ : St} {H : Hp} (Pv : Nat → St → Hp → Prop) (h0 : Pv 0 σ H)
    (hs : ∀ i σ H, i < n → Pv i σ H → g (.int (lo + i)) σ H fun σ2 H2 => tb { D with nx := Pv (i + 1), ct := Pv (i + 1), bk := D.nx } σ2 H2) (hd : ∀ σ H, Pv n σ H → D.nx σ H) :
    ∃ W : Nat → Nat → St → Hp → Prop, (∃ m, W 0 m σ H) ∧ ∀ i m σ H, W i m σ H →
      ((Itr lo n).stop i H ∧ D.nx σ H) ∨ ((Itr lo n).go i H ∧ ∃ N : St → Hp → Prop, (∀ σ' H', N σ' H' → ∃ m', m' < m ∧ W (i + 1) m' σ' H') ∧ ∀ x H', (Itr lo n).yld i H x H' → g x σ H' fun σ2 H2 => tb { D with nx := N, ct := N, bk := D.nx } σ2 H2) := by
  refine ⟨fun i m σ H => m = n - i ∧ i ≤ n ∧ Pv i σ H, ⟨n, by simp, Nat.zero_le _, h0⟩, ?_⟩
  rintro i m σ H ⟨rfl, hi, p⟩
  by_cases hlt : i < n
  · refine .inr ⟨hlt, Pv (i + 1), fun σ' H' p' => ⟨n - (i + 1), by omega, rfl, hlt, p'⟩, fun x H' y => ?_⟩
    obtain ⟨e, y⟩ := y
    subst e y
    exact hs i σ _ hlt p
  · have e : i = n := by omega
    subst e
    exact .inl ⟨Nat.le_refl _, hd σ H p⟩
end L2
namespace L2
open PySem PySem.Spec PyProof.Rows
abbrev R2 := V → V → Hp → VK → Prop
def OpR (X : Cx) (f : Value → Value → Sem Value) (r : R2) : Prop :=
  ∀ (pins : List (Addr × Obj)) (s : Shared) (σ : St) (H : Hp) (x y : V) (v u : Value) (Q : VK), Inv X pins σ H s → RelV x v → RelV y u → r x y H Q →
    wpAny (model X.prog X.w) X.A (f v u) (EP X pins σ Q) X.xe s
def UnR (X : Cx) (f : Value → Sem Value) (r : V → Hp → VK → Prop) : Prop :=
  ∀ (pins : List (Addr × Obj)) (s : Shared) (σ : St) (H : Hp) (x : V) (v : Value) (Q : VK), Inv X pins σ H s → RelV x v → r x H Q →
    wpAny (model X.prog X.w) X.A (f v) (EP X pins σ Q) X.xe s
def CallR (X : Cx) (f : Value) (r : List V → Hp → VK → Prop) : Prop :=
  ∀ (pins : List (Addr × Obj)) (s : Shared) (σ : St) (H : Hp) (xs : List V) (us : List Value) (Q : VK), Inv X pins σ H s → Vals xs us → r xs H Q →
    wpAny (model X.prog X.w) X.A (call f us) (EP X pins σ Q) X.xe s
def tOp (r : R2) (ta tb : TE) : TE := fun σ H Q => ta σ H fun x H1 => tb σ H1 fun y H2 => r x y H2 Q
def tUn (r : V → Hp → VK → Prop) (ta : TE) : TE := fun σ H Q => ta σ H fun x H1 => r x H1 Q
def rI (C : Int → Int → Prop) (g : Int → Int → V) : R2 := fun x y H Q => ∃ i j, x = .int i ∧ y = .int j ∧ C i j ∧ Q (g i j) H
def rI0 (g : Int → Int → V) : R2 := fun x y H Q => ∃ i j, x = .int i ∧ y = .int j ∧ Q (g i j) H
def rU (g : Int → V) : V → Hp → VK → Prop := fun x H Q => ∃ i, x = .int i ∧ Q (g i) H
section
variable {X : Cx} {a b c : Expr} {ta tb tc : TE} {pos : Pos}
theorem binT (ha : PE X a ta) (hb : PE X b tb) {pins : List (Addr × Obj)} {s : Shared} {σ : St} {H : Hp} {R : V → V → Hp → Prop} (I : Inv X pins σ H s)
    (h : ta σ H fun x H1 => tb σ H1 fun y H2 => R x y H2) {Q : Value → Shared → Prop} {f : Value → Value → Sem Value}
    (hf : ∀ v u s2 x y H2, Inv X pins σ H2 s2 → RelV x v → RelV y u → R x y H2 → wpAny (model X.prog X.w) X.A (f v u) Q X.xe s2) :
    wpAny (model X.prog X.w) X.A (eval a X.env) (fun v s₁ => wpAny (model X.prog X.w) X.A (eval b X.env) (fun u s₂ => wpAny (model X.prog X.w) X.A (f v u) Q X.xe s₂) X.xe s₁) X.xe s := by
  refine thn (ha pins s σ H _ I h) fun v s1 ⟨x, H1, I1, r1, q1⟩ => ?_
  refine thn (hb pins s1 σ H1 _ I1 q1) fun u s2 ⟨y, H2, I2, r2, q2⟩ => ?_
  exact hf v u s2 x y H2 I2 r1 r2 q2
theorem pe_op {op : Operator} {r : R2} (ho : OpR X (binaryOp op) r) (ha : PE X a ta) (hb : PE X b tb) : PE X (.BinOp a op b pos) (tOp r ta tb) := by
  intro pins s σ H Q I h
  exact wpAny_BinOp (binT ha hb I h fun v u s2 x y H2 I2 rx ry q => ho pins s2 σ H2 x y v u Q I2 rx ry q)
theorem pe_un {op : UnaryOp} {r : V → Hp → VK → Prop} (ho : UnR X (unaryOp op) r) (ha : PE X a ta) : PE X (.UnaryOp op a pos) (tUn r ta) := by
  intro pins s σ H Q I h
  exact UnaryOp_ (thn (ha pins s σ H _ I h) fun v s1 ⟨x, H1, I1, r1, q1⟩ => ho pins s1 σ H1 x v Q I1 r1 q1)
theorem opI {f : Value → Value → Sem Value} {C : Int → Int → Prop} {g : Int → Int → Int}
    (rule : ∀ (i j : Int) (t u : Tok) (s : Shared) (Q : Value → Shared → Prop) (E : Value → Shared → Prop), C i j → Q (.int (g i j) s.toks) { s with toks := s.toks + 1 } → wpAny (model X.prog X.w) X.A (f (.int i t) (.int j u)) Q E s) :
    OpR X f (rI C fun i j => .int (g i j)) := by
  intro pins s σ H x y v u Q I rx ry h
  obtain ⟨i, j, rfl, rfl, hc, q⟩ := h
  obtain ⟨t, rfl⟩ := rx
  obtain ⟨t', rfl⟩ := ry
  exact rule i j t t' s _ _ hc ⟨.int (g i j), H, I.tok _, ⟨_, rfl⟩, q⟩
theorem opI0 {f : Value → Value → Sem Value} {g : Int → Int → Int}
    (rule : ∀ (i j : Int) (t u : Tok) (s : Shared) (Q : Value → Shared → Prop) (E : Value → Shared → Prop), Q (.int (g i j) s.toks) { s with toks := s.toks + 1 } → wpAny (model X.prog X.w) X.A (f (.int i t) (.int j u)) Q E s) :
    OpR X f (rI0 fun i j => .int (g i j)) := by
  intro pins s σ H x y v u Q I rx ry h
  obtain ⟨i, j, rfl, rfl, q⟩ := h
  obtain ⟨t, rfl⟩ := rx
  obtain ⟨t', rfl⟩ := ry
  exact rule i j t t' s _ _ ⟨.int (g i j), H, I.tok _, ⟨_, rfl⟩, q⟩
theorem opB0 {f : Value → Value → Sem Value} {g : Int → Int → Bool}
    (rule : ∀ (i j : Int) (t u : Tok) (s : Shared) (Q : Value → Shared → Prop) (E : Value → Shared → Prop), Q (.bool (g i j)) s → wpAny (model X.prog X.w) X.A (f (.int i t) (.int j u)) Q E s) :
    OpR X f (rI0 fun i j => .bl (g i j)) := by
  intro pins s σ H x y v u Q I rx ry h
  obtain ⟨i, j, rfl, rfl, q⟩ := h
  obtain ⟨t, rfl⟩ := rx
  obtain ⟨t', rfl⟩ := ry
  exact rule i j t t' s _ _ ⟨.bl (g i j), H, I, rfl, q⟩
def CDiv (i j : Int) : Prop := 0 < j ∧ j < 1073741824
def CPow (i j : Int) : Prop := 0 ≤ j ∧ j ≤ 1000000 ∧ i.natAbs < 2 ^ 64
def CMul (i j : Int) : Prop := (-(2 ^ 64) < i ∧ i < 2 ^ 64) ∨ (-(2 ^ 64) < j ∧ j < 2 ^ 64)
theorem CMul.ok {i j : Int} (h : CMul i j) : IntMulOk i j := by
  rcases h with ⟨h1, h2⟩ | ⟨h1, h2⟩
  · exact .of_left (intBits_le_64 h1 h2)
  · exact .of_right (intBits_le_64 h1 h2)
theorem op_add : OpR X (binaryOp .Add) (rI0 fun i j => .int (i + j)) := opI0 fun _ _ _ _ _ _ _ q => add_int q
theorem op_sub : OpR X (binaryOp .Sub) (rI0 fun i j => .int (i - j)) := opI0 fun _ _ _ _ _ _ _ q => sub_int q
theorem op_mul : OpR X (binaryOp .Mult) (rI CMul fun i j => .int (i * j)) := opI fun _ _ _ _ _ _ _ hc q => mul_int q hc.ok
theorem op_fdiv : OpR X (binaryOp .FloorDiv) (rI CDiv fun i j => .int (i / j)) := opI fun i j _ _ _ _ _ hc q => by
  have h1 : (0 : Int) < j := hc.1
  have h2 : j < 1073741824 := hc.2
  exact floordiv_int (by omega) (by rw [Int.fdiv_eq_ediv_of_nonneg i (by omega)]; exact q) (.inl (PyProof.noPylong_small (by omega)))
theorem op_mod : OpR X (binaryOp .Mod) (rI (fun _ j => 0 < j) fun i j => .int (i % j)) := opI fun i j _ _ _ _ _ hc q => by
  have h1 : (0 : Int) < j := hc
  exact mod_int' (by omega) (by rw [Int.fmod_eq_emod_of_nonneg i (by omega)]; exact q)
theorem op_modN : OpR X (binaryOp .Mod) (rI (fun _ j => j ≠ 0) fun i j => .int (i.fmod j)) := opI fun _ _ _ _ _ _ _ hc q => mod_int' hc q
theorem op_pow : OpR X (binaryOp .Pow) (rI CPow fun i j => .int (i ^ j.toNat)) := opI fun _ _ _ _ _ _ _ hc q => pow_int_small hc.1 hc.2.1 hc.2.2 q
theorem unI {f : Value → Sem Value} {g : Int → Int}
    (rule : ∀ (i : Int) (t : Tok) (s : Shared) (Q : Value → Shared → Prop) (E : Value → Shared → Prop), Q (.int (g i) s.toks) { s with toks := s.toks + 1 } → wpAny (model X.prog X.w) X.A (f (.int i t)) Q E s) :
    UnR X f (rU fun i => .int (g i)) := by
  intro pins s σ H x v Q I rx h
  obtain ⟨i, rfl, q⟩ := h
  obtain ⟨t, rfl⟩ := rx
  exact rule i t s _ _ ⟨.int (g i), H, I.tok _, ⟨_, rfl⟩, q⟩
theorem un_neg : UnR X (unaryOp .USub) (rU fun i => .int (-i)) := unI fun _ _ _ _ _ q => neg_int q
end
def scal : V → V → Bool
  | .non, .non => true | .non, .int _ => true | .int _, .non => true | .non, .bl _ => true | .bl _, .non => true | .non, .str _ => true | .str _, .non => true
  | .int _, .int _ => true | .bl _, .bl _ => true | .str _, .str _ => true | .byt _, .byt _ => true
  | .int _, .str _ => true | .str _, .int _ => true | .bl _, .str _ => true | .str _, .bl _ => true
  | _, _ => false
def rEq : R2 := fun x y H Q => scal x y = true ∧ Q (.bl (decide (x = y))) H
def rNe : R2 := fun x y H Q => scal x y = true ∧ Q (.bl (!decide (x = y))) H
theorem dec_int {i j : Int} : decide (V.int i = V.int j) = (i == j) := by
  rw [Bool.eq_iff_iff]
  simp
theorem dec_bl {i j : Bool} : decide (V.bl i = V.bl j) = (i == j) := by
  rw [Bool.eq_iff_iff]
  simp
theorem dec_str {i j : Str} : decide (V.str i = V.str j) = (i == j) := by
  rw [Bool.eq_iff_iff]
  simp
theorem dec_byt {i j : Array UInt8} : decide (V.byt i = V.byt j) = (i.toList == j.toList) := by
  rw [Bool.eq_iff_iff]
  cases i
  cases j
  simp
section
variable {X : Cx} {a b c : Expr} {ta tb tc : TE} {pos : Pos}
theorem fin_bl {pins : List (Addr × Obj)} {σ : St} {H : Hp} {s : Shared} {Q : VK} {k k' : Bool} (I : Inv X pins σ H s) (q : Q (.bl k) H) (e : k = k') : EP X pins σ Q (.bool k') s := by
  subst e
  exact ⟨.bl k, H, I, rfl, q⟩
theorem op_eq : OpR X (compareOp .Eq) rEq := by
  intro pins s σ H x y v u Q I rx ry h
  obtain ⟨hs, q⟩ := h
  cases x with
  | non =>
    cases rx
    cases y with
    | non => cases ry; exact PySem.EqNone.eq_none_none (fin_bl I q (by simp))
    | bl j => cases ry; exact PySem.EqNone.eq_none_bool (fin_bl I q (by simp))
    | int j => obtain ⟨t', rfl⟩ := ry; exact PySem.EqNone.eq_none_int (fin_bl I q (by simp))
    | str j => obtain ⟨t', rfl⟩ := ry; exact PySem.EqNone.eq_none_str (fin_bl I q (by simp))
    | _ => exact absurd (show false = true from hs) Bool.false_ne_true
  | bl i =>
    cases rx
    cases y with
    | non => cases ry; exact PySem.EqNone.eq_bool_none (fin_bl I q (by simp))
    | bl j => cases ry; exact eq_bool (fin_bl I q dec_bl)
    | str j => obtain ⟨t', rfl⟩ := ry; exact PySem.EqMixed.eq_bool_str (fin_bl I q (by simp))
    | _ => exact absurd (show false = true from hs) Bool.false_ne_true
  | int i =>
    obtain ⟨t, rfl⟩ := rx
    cases y with
    | non => cases ry; exact PySem.EqNone.eq_int_none (fin_bl I q (by simp))
    | int j => obtain ⟨t', rfl⟩ := ry; exact eq_int (fin_bl I q dec_int)
    | str j => obtain ⟨t', rfl⟩ := ry; exact PySem.EqMixed.eq_int_str (fin_bl I q (by simp))
    | _ => exact absurd (show false = true from hs) Bool.false_ne_true
  | str i =>
    obtain ⟨t, rfl⟩ := rx
    cases y with
    | non => cases ry; exact PySem.EqNone.eq_str_none (fin_bl I q (by simp))
    | bl j => cases ry; exact PySem.EqMixed.eq_str_bool (fin_bl I q (by simp))
    | int j => obtain ⟨t', rfl⟩ := ry; exact PySem.EqMixed.eq_str_int (fin_bl I q (by simp))
    | str j => obtain ⟨t', rfl⟩ := ry; exact eq_str (fin_bl I q dec_str)
    | _ => exact absurd (show false = true from hs) Bool.false_ne_true
  | byt i =>
    obtain ⟨t, rfl⟩ := rx
    cases y with
    | byt j => obtain ⟨t', rfl⟩ := ry; exact PySem.W.eq_bytes (fin_bl I q dec_byt)
    | _ => exact absurd (show false = true from hs) Bool.false_ne_true
  | _ => cases y <;> exact absurd (show false = true from hs) Bool.false_ne_true
theorem op_ne : OpR X (compareOp .NotEq) rNe := by
  intro pins s σ H x y v u Q I rx ry h
  obtain ⟨hs, q⟩ := h
  cases x with
  | non =>
    cases rx
    cases y with
    | non => cases ry; exact PySem.EqNone.ne_none_none (fin_bl I q (by simp))
    | bl j => cases ry; exact PySem.EqNone.ne_none_bool (fin_bl I q (by simp))
    | int j => obtain ⟨t', rfl⟩ := ry; exact PySem.EqNone.ne_none_int (fin_bl I q (by simp))
    | str j => obtain ⟨t', rfl⟩ := ry; exact PySem.EqNone.ne_none_str (fin_bl I q (by simp))
    | _ => exact absurd (show false = true from hs) Bool.false_ne_true
  | bl i =>
    cases rx
    cases y with
    | non => cases ry; exact PySem.EqNone.ne_bool_none (fin_bl I q (by simp))
    | bl j => cases ry; exact ne_bool (fin_bl I q (congrArg not dec_bl))
    | str j => obtain ⟨t', rfl⟩ := ry; exact PySem.EqMixed.ne_bool_str (fin_bl I q (by simp))
    | _ => exact absurd (show false = true from hs) Bool.false_ne_true
  | int i =>
    obtain ⟨t, rfl⟩ := rx
    cases y with
    | non => cases ry; exact PySem.EqNone.ne_int_none (fin_bl I q (by simp))
    | int j => obtain ⟨t', rfl⟩ := ry; exact ne_int (fin_bl I q (congrArg not dec_int))
    | str j => obtain ⟨t', rfl⟩ := ry; exact PySem.EqMixed.ne_int_str (fin_bl I q (by simp))
    | _ => exact absurd (show false = true from hs) Bool.false_ne_true
  | str i =>
    obtain ⟨t, rfl⟩ := rx
    cases y with
    | non => cases ry; exact PySem.EqNone.ne_str_none (fin_bl I q (by simp))
    | bl j => cases ry; exact PySem.EqMixed.ne_str_bool (fin_bl I q (by simp))
    | int j => obtain ⟨t', rfl⟩ := ry; exact PySem.EqMixed.ne_str_int (fin_bl I q (by simp))
    | str j => obtain ⟨t', rfl⟩ := ry; exact ne_str (fin_bl I q (congrArg not dec_str))
    | _ => exact absurd (show false = true from hs) Bool.false_ne_true
  | byt i =>
    obtain ⟨t, rfl⟩ := rx
    cases y with
    | byt j => obtain ⟨t', rfl⟩ := ry; exact PySem.W.ne_bytes (fin_bl I q (congrArg not dec_byt))
    | _ => exact absurd (show false = true from hs) Bool.false_ne_true
  | _ => cases y <;> exact absurd (show false = true from hs) Bool.false_ne_true
theorem op_lt : OpR X (compareOp .Lt) (rI0 fun i j => .bl (decide (i < j))) := opB0 fun _ _ _ _ _ _ _ q => lt_int q
theorem op_le : OpR X (compareOp .LtE) (rI0 fun i j => .bl (decide (i ≤ j))) := opB0 fun _ _ _ _ _ _ _ q => le_int q
theorem op_gt : OpR X (compareOp .Gt) (rI0 fun i j => .bl (decide (j < i))) := opB0 fun _ _ _ _ _ _ _ q => gt_int q
theorem OpR.or {f : Value → Value → Sem Value} {r r' : R2} (h : OpR X f r) (h' : OpR X f r') : OpR X f (fun x y H Q => r x y H Q ∨ r' x y H Q) := by
  intro pins s σ H x y v u Q I rx ry q
  rcases q with q | q
  · exact h pins s σ H x y v u Q I rx ry q
  · exact h' pins s σ H x y v u Q I rx ry q
theorem nomark (b : Expr) {op : CmpOp} (h : op ≠ .In := by decide) (h2 : op ≠ .NotIn := by decide) : behindInMarks op b = false := by
  have e1 : (op == CmpOp.In) = false := by cases op <;> first | rfl | exact absurd rfl h
  have e2 : (op == CmpOp.NotIn) = false := by cases op <;> first | rfl | exact absurd rfl h2
  cases b <;> simp [behindInMarks, e1, e2]
theorem pe_cmpR {op : CmpOp} {r : R2} (ho : OpR X (compareOp op) r) (ha : PE X a ta) (hb : PE X b tb) (hm : behindInMarks op b = false) : PE X (.Compare a [op] [b] pos) (tOp r ta tb) := by
  intro pins s σ H Q I h
  exact wpAny_Compare1 (binT ha hb I h fun v u s2 x y H2 I2 rx ry q => ho pins s2 σ H2 x y v u Q I2 rx ry q) hm
def tTest (t : TE) : TT := fun σ H Q => t σ H fun x H' => ∃ k, x = .bl k ∧ Q k H'
theorem pt_cmpR {op : CmpOp} {r : R2} (ho : OpR X (compareOp op) r) (ha : PE X a ta) (hb : PE X b tb) (hm : behindInMarks op b = false) : PT X (.Compare a [op] [b] pos) (tTest (tOp r ta tb)) := by
  intro pins s σ H Q I h
  refine wpAny_isTrue_Compare1 (thn (ha pins s σ H _ I h) fun v s1 ⟨x, H1, I1, r1, q1⟩ => thn (hb pins s1 σ H1 _ I1 q1) fun u s2 ⟨y, H2, I2, r2, q2⟩ =>
    thn (ho pins s2 σ H2 x y v u _ I2 r1 r2 q2) fun c s3 ⟨z, H3, I3, r3, k, e, q3⟩ => ?_) hm
  subst e
  cases r3
  exact wpAny_truthy_bool ⟨H3, I3, q3⟩
def tChain (r r' : R2) (ta tb tc : TE) : TE := fun σ H Q => ta σ H fun x H1 => tb σ H1 fun y H2 => r x y H2 fun z H3 => ∃ k, z = .bl k ∧
  (if k = true then tc σ H3 fun w' H4 => r' y w' H4 Q else Q (.bl false) H3)
theorem pe_chain {op op' : CmpOp} {r r' : R2} (ho : OpR X (compareOp op) r) (ho' : OpR X (compareOp op') r') (ha : PE X a ta) (hb : PE X b tb) (hc : PE X c tc)
    (hm : lastMarks [op, op'] [b, c] = false := by with_unfolding_all rfl) : PE X (.Compare a [op, op'] [b, c] pos) (tChain r r' ta tb tc) := by
  intro pins s σ H Q I h
  refine Compare_chain (thn (ha pins s σ H _ I h) fun v s1 ⟨x, H1, I1, r1, q1⟩ => chain_link (thn (hb pins s1 σ H1 _ I1 q1) fun u s2 ⟨y, H2, I2, r2, q2⟩ =>
    thn (ho pins s2 σ H2 x y v u _ I2 r1 r2 q2) fun d s3 ⟨z, H3, I3, r3, k, e, q3⟩ => ?_)) hm
  subst e
  cases r3
  refine wpAny_truthy_bool ?_
  cases k with
  | false => exact ite_ff ⟨.bl false, H3, I3, rfl, q3⟩
  | true => exact ite_tt (chain_last (thn (hc pins s3 σ H3 _ I3 q3) fun w' s4 ⟨z', H4, I4, r4, q4⟩ => ho' pins s4 σ H4 y z' u w' Q I4 r2 r4 q4))
theorem line63 : (sizeLine : Nat) < 2 ^ 63 := by rw [sizeLine_eq]; decide
theorem vals1 {x : V} {us : List Value} (r : Vals [x] us) : ∃ u, us = [u] ∧ RelV x u := by
  cases r with
  | cons r1 r2 => cases r2; exact ⟨_, rfl, r1⟩
theorem vals2 {x y : V} {us : List Value} (r : Vals [x, y] us) : ∃ u w', us = [u, w'] ∧ RelV x u ∧ RelV y w' := by
  cases r with
  | cons r1 r2 =>
    cases r2 with
    | cons r3 r4 => cases r4; exact ⟨_, _, rfl, r1, r3⟩
theorem call_min2 (hc : X.calm = true) : CallR X (.builtin "min") (fun xs H Q => ∃ i j, xs = [.int i, .int j] ∧ Q (.int (if j < i then j else i)) H) := by
  intro pins s σ H xs us Q I r h
  obtain ⟨i, j, rfl, q⟩ := h
  obtain ⟨u, w', rfl, ⟨t, rfl⟩, ⟨t', rfl⟩⟩ := vals2 r
  refine min_two_ints (I.ok.hd hc) fun h' tk k => ⟨_, H, I.kept k, ?_, q⟩
  by_cases hj : j < i
  · rw [if_pos hj, if_pos hj]; exact ⟨_, rfl⟩
  · rw [if_neg hj, if_neg hj]; exact ⟨_, rfl⟩
theorem call_int1 : CallR X (.type "int") (fun xs H Q => (∃ i, xs = [.int i] ∧ Q (.int i) H) ∨ ∃ k, xs = [.bl k] ∧ Q (.int (if k then 1 else 0)) H) := by
  intro pins s σ H xs us Q I r h
  rcases h with ⟨i, rfl, q⟩ | ⟨k, rfl, q⟩
  · obtain ⟨u, rfl, t, rfl⟩ := vals1 r
    exact call_int_int ⟨.int i, H, I, ⟨_, rfl⟩, q⟩
  · obtain ⟨u, rfl, r1⟩ := vals1 r
    cases r1
    exact call_int_bool ⟨.int (if k then 1 else 0), H, I.tok _, ⟨_, rfl⟩, q⟩
end
end L2
namespace L2
open PySem PySem.Spec PyProof.Rows
section
variable {prog : Program} {w : World} {A : Around} {E : Value → Shared → Prop} {s : Shared} {K : PySem.W.Frag} {x dx C f : Addr} {mA : Str → Option Value} {name : Str} {v : Value}
end
theorem RelO.some_of {v : V} {o : Option Value} (r : RelO (some v) o) : ∃ u, o = some u ∧ RelV v u := by
  cases o with
  | none => exact (show False from r).elim
  | some u => exact ⟨u, rfl, r⟩
section
variable {P : Program} {w : World} {H H' : Hp} {h h' : Heap} {a C dx : Addr} {fs fs' : List (Str × V)}
end
structure Cls (K : PySem.W.Frag) (C : Addr) : Prop where
  pg : PySem.W.plainGet K C Str.empty = true
  hd : PySem.W.hasDictIn K C = true
  po : PySem.W.plainOver K C = true
  sa : PySem.W.findIn K (.ref C) "__setattr__" = some (some (.builtin "object.__setattr__"))
theorem Cls.get {K : PySem.W.Frag} {C : Addr} (c : Cls K C) (f : Str) : PySem.W.plainGet K C f = true := c.pg
section
variable {X : Cx} {pins : List (Addr × Obj)} {σ : St} {H : Hp} {s : Shared} {a C dx : Addr} {fs : List (Str × V)} {f : Str} {v : V} {A : Around} {E : Value → Shared → Prop}
end
section
variable {X : Cx} {o e value : Expr} {f : Str} {pos pos' tpos : Pos} {ta tv : TE}
end
section
variable {X : Cx} {pins : List (Addr × Obj)} {σ : St} {H : Hp} {s : Shared} {A : Around} {E : Value → Shared → Prop} {Q : Value → Shared → Prop} {c : Value} {b : Bool}
end
end L2
namespace L2
open PySem PySem.Spec PyProof.Rows
structure Room (k : Nat) (A : Around) : Prop where
  hd : A.handled = none
  dp : A.depth + 3 * k + 5 < recursionLimit
  un : A.units + 16 * k + 200 < cLine
theorem Room.mono {j k : Nat} {A : Around} (r : Room k A) (h : j ≤ k) : Room j A := ⟨r.hd, by have := r.dp; omega, by have := r.un; omega⟩
theorem Room.deeper {k : Nat} {A : Around} (r : Room (k + 1) A) (env : Env) : Room k (A.deeper env) :=
  ⟨r.hd, by have := r.dp; show A.depth + 1 + 3 * k + 5 < _; omega, by have := r.un; show A.units + 3 + 16 * k + 200 < _; omega⟩
theorem Room.in1 {k : Nat} {A : Around} (r : Room (k + 1) A) : Room k A.in1 :=
  ⟨r.hd, by have := r.dp; show A.depth + 3 * k + 5 < _; omega, by have := r.un; show A.units + 1 + 16 * k + 200 < _; omega⟩
theorem Room.depth {k : Nat} {A : Around} (r : Room k A) : A.depth < recursionLimit := by have := r.dp; omega
theorem Room.units {k : Nat} {A : Around} (r : Room k A) : A.units + 64 < cLine := by have := r.un; omega
def tNil : TA := fun _ H Q => Q [] H
def tCons (ta : TE) (tr : TA) : TA := fun σ H Q => ta σ H fun x H1 => tr σ H1 fun xs H2 => Q (x :: xs) H2
section
variable {X : Cx} {e : Expr} {es : List Expr} {te : TE} {t : TA} {pos : Pos}
theorem pa_nil : PA X [] tNil := fun _ _ _ _ H Q I h => Calls.spliced_nil ⟨[], H, I, .nil, h⟩
theorem pa_cons (ha : PE X e te) (hr : PA X es t) (hs : starEach (e :: es) X.env = (false, eval e X.env) :: starEach es X.env := by rfl) : PA X (e :: es) (tCons te t) := by
  intro pos pins s σ H Q I h
  rw [hs]
  show wpAny _ _ (spliced ((false, eval e X.env) :: backTo pos (starEach es X.env))) _ _ s
  refine Calls.spliced_cons (thn (ha pins s σ H _ I h) fun u s1 ⟨x, H1, I1, r1, q1⟩ => ?_)
  exact thn (hr pos pins s1 σ H1 _ I1 q1) fun us s2 ⟨xs, H2, I2, r2, q2⟩ => ⟨x :: xs, H2, I2, .cons r1 r2, q2⟩
def tTup (t : TA) : TE := fun σ H Q => t σ H fun xs H1 => xs.length ≤ sizeLine ∧ ∀ p, H1 p = none → Q (.ref p) (upd H1 p (.tup xs))
def tLst (t : TA) : TE := fun σ H Q => t σ H fun xs H1 => xs.length ≤ sizeLine ∧ ∀ p, H1 p = none → Q (.ref p) (upd H1 p (.lst xs))
theorem pe_tup {x1} (h : PA X es t) : PE X (.Tuple es x1 pos) (tTup t) := by
  intro pins s σ H Q I hq
  refine wpAny_Tuple_spliced (thn (h pos pins s σ H _ I hq) fun us s1 ⟨xs, H1, I1, r, z, q⟩ => ⟨by rw [← r.length]; exact z, ?_⟩)
  have hf : H1 s1.heap.objs.size = none := I1.hok.fresh (Nat.le_refl _)
  refine ⟨.ref s1.heap.objs.size, upd H1 s1.heap.objs.size (.tup xs), I1.laid (t' := s1.toks) (fun b u e => Heap.get?_push_of_some _ e) (Nat.le_refl _) ?_, rfl, q _ hf⟩
  exact ⟨z, us, r, ⟨_, Heap.get?_push_size _ rfl, rfl, _, rfl⟩⟩
theorem pe_lst (h : PA X es t) : PE X (.List es pos) (tLst t) := by
  intro pins s σ H Q I hq
  refine wpAny_List_spliced (thn (h pos pins s σ H _ I hq) fun us s1 ⟨xs, H1, I1, r, z, q⟩ => ⟨by rw [← r.length]; exact z, ?_⟩)
  have hf : H1 s1.heap.objs.size = none := I1.hok.fresh (Nat.le_refl _)
  refine ⟨.ref s1.heap.objs.size, upd H1 s1.heap.objs.size (.lst xs), I1.laid (t' := s1.toks) (fun b u e => Heap.get?_push_of_some _ e) (Nat.le_refl _) ?_, rfl, q _ hf⟩
  exact ⟨z, us, 0, r, Heap.get?_push_size _ rfl⟩
end
abbrev Sp := List V → Hp → VK → XK → Prop
abbrev CXT := List Env → Hp → Shared → XK → Value → Shared → Prop
structure Env0 (P : Program) (w : World) (K : PySem.W.Frag) (mg : Str → Option Value) (base : Heap) (A : Around) (outer : List Env) (s : Shared) (H : Hp) : Prop where
  frames : A.frames = some outer
  mod : Mod K mg base
  bs : ∀ b o, base.get? b = some o → s.heap.get? b = some o ∧ H b = none
  bsz : base.objs.size ≤ s.heap.objs.size
  funs : s.heap.FunFrames base outer
  frf : ∀ b ∈ frs outer, H b = none
  hok : HOk P w H s.heap
  bare : AllBare s.gens
def CE (outer : List Env) (P : Program) (w : World) (H : Hp) (s : Shared) (Q : VK) (u : Value) (s' : Shared) : Prop :=
  ∃ v H', s'.os = s.os ∧ AllBare s'.gens ∧ Un (frs outer) [] H H' s.heap s'.heap ∧ HOk P w H' s'.heap ∧ RelV v u ∧ Q v H'
def CR (CX : CXT) (outer : List Env) (P : Program) (w : World) (H : Hp) (s : Shared) (Q : VK) (E : XK) (r : Result) (s' : Shared) : Prop :=
  match r with
  | .ok (.ret u) => CE outer P w H s Q u s'
  | .ok _ => False
  | .error e => CX outer H s E e s'
structure FnOk (P : Program) (w : World) (K : PySem.W.Frag) (mg : Str → Option Value) (base : Heap) (CX : CXT) (k : Nat) (f : Addr) (fd : FuncData) (ps : List Str) (sp : Sp) : Prop where
  len : ∀ vs H Q E, sp vs H Q E → vs.length = ps.length
  run : ∀ (A : Around) (outer : List Env) (s : Shared) (H : Hp) (args : Args) (us : List Value) (vs : List V) (Q : VK) (E : XK), Room k A → Env0 P w K mg base A outer s H → BindsTo s fd args (ps.zip us) → Vals vs us → sp vs H Q E →
    codeAny (model P w) A (.call (.ref f) args) (CR CX outer P w H s Q E) s
theorem FnOk.mono {P : Program} {w : World} {K : PySem.W.Frag} {mg : Str → Option Value} {base : Heap} {CX : CXT} {j k : Nat} {f : Addr} {fd : FuncData} {ps : List Str} {sp : Sp} (F : FnOk P w K mg base CX j f fd ps sp) (h : j ≤ k) :
    FnOk P w K mg base CX k f fd ps sp := ⟨F.len, fun A outer s H args us vs Q E hr => F.run A outer s H args us vs Q E (hr.mono h)⟩
theorem FnOk.imp {P : Program} {w : World} {K : PySem.W.Frag} {mg : Str → Option Value} {base : Heap} {CX : CXT} {k : Nat} {f : Addr} {fd : FuncData} {ps : List Str} {sp sp' : Sp} (F : FnOk P w K mg base CX k f fd ps sp)
    (h : ∀ vs H Q E, sp' vs H Q E → sp vs H Q E) : FnOk P w K mg base CX k f fd ps sp' :=
  ⟨fun vs H Q E q => F.len vs H Q E (h _ _ _ _ q), fun A outer s H args us vs Q E hr he hb hv hs => F.run A outer s H args us vs Q E hr he hb hv (h _ _ _ _ hs)⟩
theorem Env0.in1 {P : Program} {w : World} {K : PySem.W.Frag} {mg : Str → Option Value} {base : Heap} {A : Around} {outer : List Env} {s : Shared} {H : Hp} (e : Env0 P w K mg base A outer s H) :
    Env0 P w K mg base A.in1 outer s H := ⟨e.frames, e.mod, e.bs, e.bsz, e.funs, e.frf, e.hok, e.bare⟩
section
variable {X : Cx} {pins : List (Addr × Obj)} {σ : St} {H : Hp} {s s' : Shared}
theorem Inv.env0 (I : Inv X pins σ H s) : Env0 X.prog X.w X.K X.mg X.base X.A X.stack s H :=
  ⟨I.ok.frames, I.ok.mod, I.bs, Nat.le_trans I.ok.bsz I.sz, I.stack, I.stkFree, I.hok, I.bare⟩
theorem Inv.after {Q : VK} {u : Value} (I : Inv X pins σ H s) (h : CE X.stack X.prog X.w H s Q u s') : EP X pins σ Q u s' := by
  obtain ⟨v, H', os, bare, un, hok, r, q⟩ := h
  obtain ⟨hh, g, d, t, os'⟩ := s'
  obtain rfl : os' = s.os := os
  exact ⟨v, H', I.call (h' := hh) (g' := g) (d' := d) (t' := t) (ch := []) un hok bare (fun b z => absurd z (by simp)), r, q⟩
end
def tCall (sp : Sp) (dvs : List V) (E : XK) (t : TA) : TE := fun σ H Q => t σ H fun vs H1 => sp (vs ++ dvs) H1 Q E
def Binds (K : PySem.W.Frag) (fd : FuncData) (ps : List Str) (ds : List Value) : Prop :=
  ∀ (s : Shared) (us : List Value), K.In s.heap → (us ++ ds).length = ps.length → BindsTo s fd ⟨us, []⟩ (ps.zip (us ++ ds))
theorem Binds.all {K : PySem.W.Frag} {fd : FuncData} {ps : List Str} (h : ∀ us : List Value, us.length = ps.length → bindArgs fd ⟨us, []⟩ = pure (ps.zip us)) : Binds K fd ps [] := fun s us _ hl => by
  rw [List.append_nil] at hl ⊢
  exact .of_eq (h us hl)
def Passes (CX : CXT) (X : Cx) (E : XK) : Prop := ∀ (pins : List (Addr × Obj)) (σ : St) (H : Hp) (s : Shared) (e : Value) (s' : Shared), Inv X pins σ H s → CX X.stack H s E e s' → X.xe e s'
section
variable {X : Cx} {CX : CXT} {k : Nat} {f C : Addr} {fd : FuncData} {ps : List Str} {sp : Sp} {dvs : List V} {ds : List Value} {E : XK} {x m : Str} {p pos apos : Pos} {e o : Expr} {es : List Expr} {ta : TE} {t : TA}
theorem run_fn {pins : List (Addr × Obj)} {σ : St} {H : Hp} {s : Shared} {Q : VK} {us : List Value} {vs : List V} (F : FnOk X.prog X.w X.K X.mg X.base CX k f fd ps sp) (hr : Room k X.A) (hb : Binds X.K fd ps ds) (hd : Vals dvs ds) (hx : Passes CX X E)
    (I : Inv X pins σ H s) (r : Vals vs us) (h : sp (vs ++ dvs) H Q E) : wpAny (model X.prog X.w) X.A (call (.ref f) us) (EP X pins σ Q) X.xe s := by
  have r2 : Vals (vs ++ dvs) (us ++ ds) := r.append hd
  have hl : (us ++ ds).length = ps.length := by rw [← r2.length]; exact F.len _ _ _ _ h
  refine wpAny_call (codeAny_mono (F.run X.A X.stack s H ⟨us, []⟩ (us ++ ds) (vs ++ dvs) Q E hr I.env0 (hb s us I.kIn hl) r2 h) fun r s' hq => ?_)
  cases r with
  | error e => exact hx pins σ H s e s' I hq
  | ok fl =>
    cases fl with
    | ret u => exact I.after hq
    | next => exact False.elim hq
    | brk => exact False.elim hq
    | cont => exact False.elim hq
theorem pe_call (F : FnOk X.prog X.w X.K X.mg X.base CX k f fd ps sp) (hr : Room k X.A) (hg : Gl X x) (hm : X.mg x = some (.ref f)) (hk : PySem.W.keepIn X.K (.ref f) = true) (hb : Binds X.K fd ps ds) (hd : Vals dvs ds) (hx : Passes CX X E)
    (ha : PA X (e :: es) t) (hdb : (x == ("__debug__" : Str)) = false := by decide) (he : starEach (e :: es) X.env = (false, eval e X.env) :: starEach es X.env := by rfl) (hpl : (backTo pos (starEach es X.env)).any (·.1) = false := by rfl) :
    PE X (.Call (.Name x p) (e :: es) [] pos) (tCall sp dvs E t) := by
  intro pins s σ H Q I h
  refine wpAny_Call_Name_kw (ld_glob I hg hm ?_ hdb)
  refine PySem.W.callWith_K (h₀ := X.base) I.ok.mod.kin hk (thn (ha pos pins s σ H _ I h) fun us s1 ⟨vs, H1, I1, r, q⟩ => ⟨I1.kIn, ?_⟩) he hpl
  exact run_fn F hr hb hd hx I1 r q
end
def PK (X : Cx) (kws : List Keyword) (t : TA) : Prop :=
  ∀ (pos : Pos) (pins : List (Addr × Obj)) (s : Shared) (σ : St) (H : Hp) (Q : List V → Hp → Prop), Inv X pins σ H s → t σ H Q → wpAny (model X.prog X.w) X.A (evalAll ((backToKw pos (keywordEach kws X.env)).map (·.2))) (AP X pins σ Q) X.xe s
section
variable {X : Cx} {CX : CXT} {k : Nat} {f C : Addr} {fd : FuncData} {ps ks : List Str} {sp : Sp} {E : XK} {x m : Str} {p pos apos kpos : Pos} {e o : Expr} {es : List Expr} {kws : List Keyword} {te ta : TE} {t tk : TA} {nm : Option Str}
theorem pk_nil : PK X [] tNil := fun _ _ _ _ H Q I h => wpAny_evalAll_nil ⟨[], H, I, .nil, h⟩
theorem pk_cons (ha : PE X e te) (hr : PK X kws t) : PK X (⟨nm, e, kpos⟩ :: kws) (tCons te t) := by
  intro pos pins s σ H Q I h
  show wpAny _ _ (evalAll ((do let v ← eval e X.env; standAt pos; pure v) :: (backToKw pos (keywordEach kws X.env)).map (·.2))) _ _ s
  refine wpAny_evalAll_cons (wpAny_bind (thn (ha pins s σ H _ I h) fun u s1 ⟨x, H1, I1, r1, q1⟩ => wpAny_bind (wpAny_standAt (wpAny_pure ?_))))
  exact thn (hr pos pins s1 σ H1 _ I1 q1) fun us s2 ⟨xs, H2, I2, r2, q2⟩ => ⟨x :: xs, H2, I2, .cons r1 r2, q2⟩
variable {g : List Value → List Value → List Value} {gV : List V → List V → List V}
end
structure FnScope (N P : List Str) (sc : Scope) : Prop where
  kind : sc.kind = .function
  co : sc.isCoroutine = false
  gen : sc.isGenerator = false
  nd : N.Nodup
  pre : N.take P.length = P
  par : ∀ x ∈ P, sc.names.lookup x = some .local ∨ sc.names.lookup x = some .cell
  nofree : ∀ y ∈ sc.names, y.2 ≠ .free
theorem bindL_out {kindOf : Str → Option NameKind} {x : Str} : ∀ {binds : List (Str × Value)} {m : Str → Option Value}, (∀ v, (x, v) ∉ binds) → bindL kindOf binds m x = m x
  | [], _, _ => rfl
  | (n, v) :: r, m, h => by
    unfold bindL
    rw [bindL_out fun w hw => h w (List.mem_cons_of_mem _ hw)]
    split
    · have : x ≠ n := by rintro rfl; exact h v List.mem_cons_self
      simp [this]
    · rfl
theorem bindC_out {kindOf : Str → Option NameKind} {x : Str} : ∀ {binds : List (Str × Value)} {m : Str → Option Value}, (∀ v, (x, v) ∉ binds) → bindC kindOf binds m x = m x
  | [], _, _ => rfl
  | (n, v) :: r, m, h => by
    unfold bindC
    rw [bindC_out fun w hw => h w (List.mem_cons_of_mem _ hw)]
    split
    · rfl
    · have : x ≠ n := by rintro rfl; exact h v List.mem_cons_self
      simp [this]
theorem bindL_get {kindOf : Str → Option NameKind} {x : Str} {v : Value} : ∀ {P : List Str} {vs : List Value} {i : Nat} {m : Str → Option Value}, P.Nodup → P[i]? = some x → vs[i]? = some v → kindOf x = some .local →
    bindL kindOf (P.zip vs) m x = some v
  | [], _, _, _, _, h, _, _ => by simp at h
  | _ :: _, [], _, _, _, _, h, _ => by simp at h
  | p :: P, w :: vs, 0, m, nd, h1, h2, hk => by
    simp at h1 h2; subst h1; subst h2
    show bindL kindOf ((p, w) :: P.zip vs) m p = _
    unfold bindL
    rw [bindL_out fun v hv => (List.nodup_cons.mp nd).1 (List.of_mem_zip hv).1, if_pos hk]
    simp
  | p :: P, w :: vs, i + 1, m, nd, h1, h2, hk => by
    show bindL kindOf ((p, w) :: P.zip vs) m x = _
    unfold bindL
    exact bindL_get (i := i) (List.nodup_cons.mp nd).2 (by simpa using h1) (by simpa using h2) hk
theorem bindC_get {kindOf : Str → Option NameKind} {x : Str} {v : Value} : ∀ {P : List Str} {vs : List Value} {i : Nat} {m : Str → Option Value}, P.Nodup → P[i]? = some x → vs[i]? = some v → kindOf x ≠ some .local →
    bindC kindOf (P.zip vs) m x = some v
  | [], _, _, _, _, h, _, _ => by simp at h
  | _ :: _, [], _, _, _, _, h, _ => by simp at h
  | p :: P, w :: vs, 0, m, nd, h1, h2, hk => by
    simp at h1 h2; subst h1; subst h2
    show bindC kindOf ((p, w) :: P.zip vs) m p = _
    unfold bindC
    rw [bindC_out fun v hv => (List.nodup_cons.mp nd).1 (List.of_mem_zip hv).1, if_neg hk]
    simp
  | p :: P, w :: vs, i + 1, m, nd, h1, h2, hk => by
    show bindC kindOf ((p, w) :: P.zip vs) m x = _
    unfold bindC
    exact bindC_get (i := i) (List.nodup_cons.mp nd).2 (by simpa using h1) (by simpa using h2) hk
def start (N : List Str) (vs : List V) : St := vs.map some ++ List.replicate (N.length - vs.length) none
def cxOf (CX : CXT) (P : Program) (w : World) (K : PySem.W.Frag) (mg : Str → Option Value) (base : Heap) (N : List Str) (qual : Str) (scope : Scope) (f : Addr) (cd : Value) (A : Around) (outer : List Env) (s : Shared) (H : Hp) (E : XK) : Cx where
  prog := P
  w := w
  K := K
  mg := mg
  base := base
  A := A.deeper (envOfC qual scope s.heap.objs.size f cd)
  N := N
  s₀ := s
  H₀ := H
  env := envOfC qual scope s.heap.objs.size f cd
  outer := outer
  stack := envOfC qual scope s.heap.objs.size f cd :: outer
  ex := []
  calm := true
  fn := fun _ => true
  pn := []
  xe := fun e s' => wpAny (model P w) (A.deeper (envOfC qual scope s.heap.objs.size f cd)) (leaving (envOfC qual scope s.heap.objs.size f cd) e) (fun _ s'' => CX outer H s E e s'') (fun e' s'' => CX outer H s E e' s'') s'
theorem cell_has {sc : Scope} {n : Nat} {x : Str} (h : sc.names.lookup x = some .cell) : ∃ c, (cellsFrom n sc.names []).lookup x = some c := by
  have q := PySem.W.cellsFrom_some sc.names n [] (.inl h)
  exact Option.isSome_iff_exists.mp q
theorem inv_start {CX : CXT} {P : Program} {w : World} {K : PySem.W.Frag} {mg : Str → Option Value} {base : Heap} {N ps : List Str} {qual : Str} {scope : Scope} {f : Addr} {cd : Value} {A : Around} {outer : List Env} {s s1 : Shared} {H : Hp} {E : XK} {us : List Value} {vs : List V}
    (S : FnScope N ps scope) (hd : A.handled = none) (e0 : Env0 P w K mg base A outer s H) (hl : vs.length = ps.length) (r : Vals vs us)
    (x : InCallC s s.heap.objs.size (bindL (envOfC qual scope s.heap.objs.size f cd).kindOf (ps.zip us) fun _ => none) (cellsFrom (s.heap.objs.size + 1) scope.names []) (bindC (envOfC qual scope s.heap.objs.size f cd).kindOf (ps.zip us) fun _ => none) s1) :
    Inv (cxOf CX P w K mg base N qual scope f cd A outer s H E) [] (start N vs) H s1 := by
  have hpl : ps.length ≤ N.length := by have := congrArg List.length S.pre; rw [List.length_take] at this; omega
  obtain ⟨h1, tk, rfl, hk⟩ := x.done
  have noA : ∀ b : Addr, b ∉ (cxOf CX P w K mg base N qual scope f cd A outer s H E).ex := fun b z => absurd (show b ∈ ([] : List Addr) from z) (by simp)
  refine ⟨⟨e0.mod, S.kind, rfl, rfl, Nat.le_refl _, fun y z c h1 h2 => ?_, fun y hy => ?_, fun y c _ h => ?_, fun _ => hd, Around.frames_deeper e0.frames, .inr ⟨rfl, rfl⟩, fun b z => absurd z (noA b), e0.bs, e0.bsz, fun b _ _ => noA b, fun b z => absurd z (noA b), e0.funs, e0.frf⟩,
    rfl, e0.bare, Un.kept hk, ⟨_, x.toInCall.ns, fun i y v h1 h2 h3 => ?_⟩, fun y c h => ⟨_, x.cell y c h⟩, e0.hok.fresh (Nat.le_refl _), fun y c h => ?_, fun p hp => absurd (show p ∈ ([] : List (Addr × Obj)) from hp) (by simp), e0.hok.kept hk, ?_⟩
  · exact name_of_addr x.apart (PySem.mem_of_lookup h1) (PySem.mem_of_lookup h2)
  · have hy : scope.names.lookup y = some .cell ∨ scope.names.lookup y = some .free := hy
    rcases hy with hy | hy
    · exact cell_has hy
    · exact absurd rfl (S.nofree _ (PySem.mem_of_lookup hy))
  · exact Nat.le_of_lt (x.above y c (PySem.mem_of_lookup h))
  · have hi : i < vs.length := by
      unfold start at h2
      by_cases hi : i < vs.length
      · exact hi
      · rw [List.getElem?_append_right (by simpa using hi)] at h2
        rw [List.getElem?_replicate] at h2
        split at h2 <;> cases h2
    have ha : vs[i]? = some v := by
      unfold start at h2
      rw [List.getElem?_append_left (by simpa using hi), List.getElem?_map] at h2
      cases e : vs[i]? with
      | none => rw [e] at h2; cases h2
      | some a => rw [e] at h2; cases h2; rfl
    obtain ⟨u, hu, rv⟩ := r.get ha
    have hp : ps[i]? = some y := by
      rw [← S.pre, List.getElem?_take_of_lt (by omega)]; exact h1
    have ndP : ps.Nodup := by rw [← S.pre]; exact S.nd.sublist (List.take_sublist _ _)
    refine ⟨u, rv, ?_⟩
    rcases S.par y (List.mem_of_getElem? hp) with k | k
    · exact .inl ⟨k, bindL_get ndP hp hu k⟩
    · obtain ⟨c, e⟩ := cell_has (n := s.heap.objs.size + 1) k
      refine .inr ⟨.inl k, c, e, ?_⟩
      have q := x.cell y c e
      rw [bindC_get ndP hp hu (by show scope.names.lookup y ≠ _; rw [k]; decide)] at q
      exact q
  · exact e0.hok.fresh (Nat.le_of_lt (x.above y c (PySem.mem_of_lookup h)))
  · unfold start
    show _ = N.length
    rw [List.length_append, List.length_map, List.length_replicate]
    omega
theorem fn_of {CX : CXT} {P : Program} {w : World} {K : PySem.W.Frag} {mg : Str → Option Value} {base : Heap} {k : Nat} {f : Addr} {name qual : Str} {params : Arguments} {body : List Stmt} {scope : Scope} {dV kV doc pm cdv ct oc : Value} {an od : Option Addr}
    {osl : Array (Option Value)} {N ps : List Str} {sp : Sp} (lk : K.lookup f = some ⟨oc, od, .func (PySem.W.fnOf name qual params body scope dV kV doc pm an cdv ct), osl⟩) (hcd : PySem.W.codeIn K cdv qual = true) (S : FnScope N ps scope)
    (len : ∀ vs H Q E, sp vs H Q E → vs.length = ps.length)
    (hbody : ∀ (A : Around) (outer : List Env) (s : Shared) (H : Hp) (vs : List V) (Q : VK) (E : XK), Room k (A.deeper (envOfC qual scope s.heap.objs.size f cdv)) → sp vs H Q E →
      ∃ t, PSs (cxOf CX P w K mg base N qual scope f cdv A outer s H E) body t ∧ t { nx := fun _ H' => Q .non H', rt := Q } (start N vs) H) :
    FnOk P w K mg base CX (k + 1) f (PySem.W.fnOf name qual params body scope dV kV doc pm an cdv ct) ps sp := by
  refine ⟨len, fun A outer s H args us vs Q E hr e0 hb r hsp => ?_⟩
  have hl := len _ _ _ _ hsp
  have KX : K.In s.heap := e0.mod.kin.keeps fun b o e => (e0.bs b o e).1
  have lim : s.heap.NoLimit := e0.mod.nolimit.keeps fun b o e => (e0.bs b o e).1
  have hkind : ∀ y ∈ ps.zip us, scope.names.lookup y.1 = some .local ∨ (scope.names.lookup y.1 = some .cell ∧ ((cellsFrom (s.heap.objs.size + 1) scope.names []).lookup y.1).isSome = true) := fun ⟨n, v⟩ hy => by
    rcases S.par n (List.of_mem_zip hy).1 with q | q
    · exact .inl q
    · exact .inr ⟨q, PySem.W.cellsFrom_some _ _ _ (.inl q)⟩
  refine codeAny_call_function hr.depth (KX _ _ lk) rfl S.co S.gen rfl (PySem.W.codeRec_of KX hcd) (hb _ _ _ _ ?_)
  refine wpAny_newFunctionEnv_cells S.kind hkind fun env he s1 x => ?_
  subst he
  refine ⟨lim.keeps x.toInCall.keep, codeAny_func ?_⟩
  obtain ⟨t, ht, hq⟩ := hbody A outer s H vs Q E (hr.deeper _) hsp
  have I : Inv (cxOf CX P w K mg base N qual scope f cdv A outer s H E) [] (start N vs) H s1 := inv_start S hr.hd e0 hl r x
  refine wpAny_mono (ht [] s1 (start N vs) H _ I hq) (fun fl s' hs => ?_) fun e s' hs => hs
  have fin : ∀ {σ' : St} {H' : Hp} {v : V} {u : Value}, Inv (cxOf CX P w K mg base N qual scope f cdv A outer s H E) [] σ' H' s' → RelV v u → Q v H' → CE outer P w H s Q u s' :=
    fun {σ' H' v u} J rv q => ⟨v, H', J.os, J.bare, J.base, J.hok, rv, q⟩
  cases fl with
  | ret u =>
    obtain ⟨v, σ', H', J, rv, q⟩ := hs
    exact fin J rv q
  | next =>
    obtain ⟨σ', H', J, q⟩ := hs
    exact fin (v := V.non) (u := Value.none) J rfl q
  | brk =>
    obtain ⟨_, _, _, q⟩ := hs
    exact False.elim q
  | cont =>
    obtain ⟨_, _, _, q⟩ := hs
    exact False.elim q
end L2
namespace L2
open PySem PySem.Spec PyProof.Rows
section
variable {X : Cx} {x : Str} {p pos : Pos} {e : Expr} {es : List Expr} {t : TA} {id T : String} {r : List V → Hp → VK → Prop}
def tCB (r : List V → Hp → VK → Prop) (t : TA) : TE := fun σ H Q => t σ H fun vs H1 => r vs H1 Q
theorem pe_callB (hc : CallR X (.builtin id) r) (hg : Gl X x) (hm : X.mg x = none) (hv : bootBuiltins x = some (.builtin id)) (ha : PA X (e :: es) t) (hn : x ≠ "__name__" := by decide) (hdb : (x == ("__debug__" : Str)) = false := by decide)
    (he : starEach (e :: es) X.env = (false, eval e X.env) :: starEach es X.env := by rfl) (hpl : (backTo pos (starEach es X.env)).any (·.1) = false := by rfl) : PE X (.Call (.Name x p) (e :: es) [] pos) (tCB r t) := by
  intro pins s σ H Q I h
  refine wpAny_Call_Name_kw (ld_blt I hg hm hv ?_ hn hdb)
  exact PyProof.Rows.callWith_builtin1 (thn (ha pos pins s σ H _ I h) fun us s1 ⟨vs, H1, I1, r1, q1⟩ => hc pins s1 σ H1 vs us Q I1 r1 q1) he hpl
theorem pe_callTy (hc : CallR X (.type T) r) (hg : Gl X x) (hm : X.mg x = none) (hv : bootBuiltins x = some (.type T)) (ha : PA X (e :: es) t) (hn : x ≠ "__name__" := by decide) (hdb : (x == ("__debug__" : Str)) = false := by decide)
    (he : starEach (e :: es) X.env = (false, eval e X.env) :: starEach es X.env := by rfl) (hpl : (backTo pos (starEach es X.env)).any (·.1) = false := by rfl) : PE X (.Call (.Name x p) (e :: es) [] pos) (tCB r t) := by
  intro pins s σ H Q I h
  refine wpAny_Call_Name_kw (ld_blt I hg hm hv ?_ hn hdb)
  exact PyProof.Rows.callWith_type1 (thn (ha pos pins s σ H _ I h) fun us s1 ⟨vs, H1, I1, r1, q1⟩ => hc pins s1 σ H1 vs us Q I1 r1 q1) he hpl
end
end L2
namespace HT
open PySem PyProof.Rows
def lexLt : List Int → List Int → Bool
  | [], [] => false
  | [], _ :: _ => true
  | _ :: _, [] => false
  | x :: xs, y :: ys => if x = y then lexLt xs ys else decide (x < y)
theorem lexLt_cons (x y : Int) (xs ys : List Int) : lexLt (x :: xs) (y :: ys) = if x = y then lexLt xs ys else decide (x < y) := rfl
theorem lexLt_nil_nil : lexLt [] [] = false := rfl
theorem eqAt_int (A : Around) (s : Shared) (a : Int) (t : Tok) (c : Int) (u : Tok) : ∃ e, SeqAt.EqAt A s (.int a t) (.int c u) e ∧ (e = true ↔ a = c) :=
  ⟨(a == c), SeqAt.EqAt.int_int a t c u, by simp⟩
section
open PySem.SeqAt
open PySem.AutoSeq1 (wpAny_loadPart')
open PySem.MeetsSeq PySem.MeetsSeq2 PySem.MeetsSeq3
end
section
variable {prog : Program} {w : World} {A : Around} {E : Value → Shared → Prop} {s : Shared}
theorem cat_tup {t b : Addr} {vs ws : List Value} {Q : Value → Shared → Prop} (ht : IsTup s.heap t vs.toArray) (hb : IsTup s.heap b ws.toArray) (hv : vs ≠ [])
    (h1 : ws = [] → Q (.ref t) s) (h2 : ws ≠ [] → Q (.ref s.heap.objs.size) { s with heap := s.heap.push { cls := .type "tuple", data := .seq (vs ++ ws).toArray } })
    (hsz : vs.length + ws.length ≤ sizeLine) : wpAny (model prog w) A (binaryOp .Add (.ref t) (.ref b)) Q E s := by
  obtain ⟨⟨cls, dd, data, sl⟩, ho, hc, n, hd⟩ := id ht
  obtain ⟨⟨cls2, dd2, data2, sl2⟩, ho2, hc2, n2, hd2⟩ := id hb
  simp only at hc hd hc2 hd2
  subst hc hd hc2 hd2
  have e : vs.toArray ++ ws.toArray = (vs ++ ws).toArray := by simp
  by_cases hw : ws = []
  · exact concat_meets ⟨_, ho, rfl⟩ ⟨_, ho2, rfl⟩ noFill_tuple_add seq_tuple_add PySem.F.slot_tuple_add PySem.F.entry_tuple_add (PySem.F.args_tuple_add_2 _ _)
      (tuple_addW1 t b vs.toArray ws.toArray n n2 dd dd2 sl sl2 (by simpa using hv) (by simp [hw])) ⟨ho, ho2, h1 hw⟩
  · refine concat_meets ⟨_, ho, rfl⟩ ⟨_, ho2, rfl⟩ noFill_tuple_add seq_tuple_add PySem.F.slot_tuple_add PySem.F.entry_tuple_add (PySem.F.args_tuple_add_2 _ _)
      (tuple_addW2 t b vs.toArray ws.toArray n n2 dd dd2 sl sl2 (by simpa using hv) (by simpa using hw) (by rw [List.size_toArray, List.size_toArray]; exact hsz)) ⟨ho, ho2, ?_⟩
    rw [e]
    exact h2 hw
def sIx (n d : Nat) : Option Int → Nat
  | none => d
  | some v => if v < 0 then (v + (n : Int)).toNat else min v.toNat n
end
end HT
namespace L2
open PySem PySem.Spec PyProof.Rows
abbrev TO := St → Hp → (Option Int → Hp → Prop) → Prop
def PO (X : Cx) (e : Option Expr) (t : TO) : Prop :=
  ∀ (pins : List (Addr × Obj)) (s : Shared) (σ : St) (H : Hp) (Q : Option Int → Hp → Prop), Inv X pins σ H s → t σ H Q →
    wpAny (model X.prog X.w) X.A (evalPart e X.env) (fun u s' => ∃ o H', Inv X pins σ H' s' ∧ IsPart u o ∧ Q o H') X.xe s
def tNoPart : TO := fun _ H Q => Q none H
def tPart (t : TE) : TO := fun σ H Q => t σ H fun x H1 => ∃ i, x = .int i ∧ Q (some i) H1
theorem intsAre_of {ns : List Int} : ∀ {us : List Value}, Vals (ns.map V.int) us → IntsAre us ns := by
  induction ns with
  | nil => intro us r; rw [List.map_nil] at r; cases r; exact .nil
  | cons n ns ih =>
    intro us r
    rw [List.map_cons] at r
    cases r with
    | cons r1 r2 =>
      obtain ⟨t, e⟩ := r1
      subst e
      exact .cons n t (ih r2)
section
variable {X : Cx} {e : Expr} {te : TE} {lo hi : Option Expr} {tl th : TO} {pos p2 : Pos}
def SlR (X : Cx) (r : V → Option Int → Option Int → Hp → VK → Prop) : Prop :=
  ∀ (pins : List (Addr × Obj)) (s : Shared) (σ : St) (H : Hp) (x : V) (v vl vu : Value) (lo hi : Option Int) (sl : Addr) (Q : VK), Inv X pins σ H s → RelV x v → s.heap.IsSliceOf sl vl vu .none → IsPart vl lo → IsPart vu hi → r x lo hi H Q →
    ∃ T id, typeLookup (.type T) "__getitem__" = pure (some (.builtin id)) ∧ s.TypeIs v T ∧ wpAny (model X.prog X.w) X.A (getItem v (.ref sl)) (EP X pins σ Q) X.xe s
theorem SlR.or {r r' : V → Option Int → Option Int → Hp → VK → Prop} (h : SlR X r) (h' : SlR X r') : SlR X (fun x lo hi H Q => r x lo hi H Q ∨ r' x lo hi H Q) := by
  intro pins s σ H x v vl vu lo hi sl Q I rx hs pl pu q
  rcases q with q | q
  · exact h pins s σ H x v vl vu lo hi sl Q I rx hs pl pu q
  · exact h' pins s σ H x v vl vu lo hi sl Q I rx hs pl pu q
def tSl (r : V → Option Int → Option Int → Hp → VK → Prop) (te : TE) (tl th : TO) : TE := fun σ H Q => te σ H fun x H1 => tl σ H1 fun l H2 => th σ H2 fun u H3 => r x l u H3 Q
def cutV (xs : List V) (lo hi : Option Int) : List V := (xs.drop (HT.sIx xs.length 0 lo)).take (HT.sIx xs.length xs.length hi - HT.sIx xs.length 0 lo)
def rCatT (K : PySem.W.Frag) : R2 := fun x y H Q => ∃ a b xs ys, x = .ref a ∧ y = .ref b ∧ SqT K H a xs ∧ SqT K H b ys ∧ xs ≠ [] ∧ xs.length + ys.length ≤ sizeLine ∧
  (ys = [] → Q (.ref a) H) ∧ (ys ≠ [] → ∀ p, H p = none → Q (.ref p) (upd H p (.tup (xs ++ ys))))
theorem Vals.nil_iff {xs : List V} {us : List Value} (r : Vals xs us) : us = [] ↔ xs = [] := by
  cases r with
  | nil => simp
  | cons _ _ => simp
theorem op_catT : OpR X (binaryOp .Add) (rCatT X.K) := by
  intro pins s σ H x y v u Q I rx ry h
  obtain ⟨a, b, xs, ys, rfl, rfl, ha, hb, hx, hz, q1, q2⟩ := h
  cases rx
  cases ry
  obtain ⟨its, r1, p1, _⟩ := I.tuple ha
  obtain ⟨its2, r2, p2, _⟩ := I.tuple hb
  refine HT.cat_tup p1 p2 (fun z => hx (r1.nil_iff.mp z)) (fun z => ⟨.ref a, H, I, rfl, q1 (r2.nil_iff.mp z)⟩) (fun z => ?_) (by rw [← r1.length, ← r2.length]; exact hz)
  refine ⟨.ref s.heap.objs.size, _, I.laid (t' := s.toks) (o := .tup (xs ++ ys)) (fun b ob q => Heap.get?_push_of_some _ q) (Nat.le_refl _) ?_, rfl, q2 (fun w => z (r2.nil_iff.mpr w)) _ (I.hok.fresh (Nat.le_refl _))⟩
  exact ⟨by rw [List.length_append]; exact hz, _, r1.append r2, IsTup.new _ _⟩
end
end L2
namespace L2
open PySem PySem.Spec PyProof.Rows
def ixN (n : Nat) (i : Int) : Option Nat := if 0 ≤ i then (if i < n then some i.toNat else none) else if -(n : Int) ≤ i then some (i + n).toNat else none
def atI {α : Type} (xs : List α) (i : Int) : Option α := (ixN xs.length i).bind fun j => xs[j]?
theorem ixN_seq {n : Nat} {i : Int} {j : Nat} (h : ixN n i = some j) : seqIndex? i n = some j ∧ j < n ∧ -(n : Int) ≤ i ∧ i < n := by
  unfold ixN at h
  by_cases h0 : 0 ≤ i
  · rw [if_pos h0] at h
    by_cases h1 : i < n
    · rw [if_pos h1] at h
      have e : i.toNat = j := Option.some.inj h
      exact ⟨by rw [seqIndex_of h0 h1, e], by omega, by omega, h1⟩
    · rw [if_neg h1] at h; cases h
  · rw [if_neg h0] at h
    by_cases h1 : -(n : Int) ≤ i
    · rw [if_pos h1] at h
      have e : (i + n).toNat = j := Option.some.inj h
      exact ⟨by rw [seqIndex_neg (by omega) h1, e], by omega, h1, by omega⟩
    · rw [if_neg h1] at h; cases h
theorem atI_get {α : Type} {xs : List α} {i : Int} {v : α} (h : atI xs i = some v) : ∃ j, seqIndex? i xs.length = some j ∧ xs[j]? = some v ∧ j < xs.length ∧ -(xs.length : Int) ≤ i ∧ i < xs.length := by
  unfold atI at h
  cases e : ixN xs.length i with
  | none => rw [e] at h; cases h
  | some j =>
    rw [e] at h
    obtain ⟨h1, h2, h3, h4⟩ := ixN_seq e
    exact ⟨j, h1, h, h2, h3, h4⟩
theorem atI_nat {α : Type} {xs : List α} {j : Nat} {v : α} (h : xs[j]? = some v) : atI xs (j : Int) = some v := by
  have hj : j < xs.length := (List.getElem?_eq_some_iff.mp h).1
  have e : ixN xs.length (j : Int) = some j := by
    unfold ixN
    rw [if_pos (by omega), if_pos (by omega)]; simp
  unfold atI; rw [e]; exact h
def PlainIx (b : Expr) : Prop := ∀ o i, subscripted b false o i = operate [o, i] (getItem o i)
def IxR (X : Cx) (r : R2) : Prop :=
  ∀ (value slice : Expr) (pins : List (Addr × Obj)) (s : Shared) (σ : St) (H : Hp) (x y : V) (v u : Value) (Q : VK), Inv X pins σ H s → RelV x v → RelV y u → r x y H Q →
    subscripted slice false v u = operate [v, u] (getItem v u) → wpAny (model X.prog X.w) X.A (subscriptTail value slice v u) (EP X pins σ Q) X.xe s
def MtR (X : Cx) (id : String) (r : V → List V → Hp → VK → Prop) : Prop :=
  ∀ (pins : List (Addr × Obj)) (s : Shared) (σ : St) (H : Hp) (x : V) (xs : List V) (v : Value) (us : List Value) (Q : VK), Inv X pins σ H s → RelV x v → Vals xs us → r x xs H Q →
    wpAny (model X.prog X.w) X.A (call (.builtin id) (v :: us)) (EP X pins σ Q) X.xe s
section
variable {X : Cx} {a b : Expr} {ta tb : TE} {pos : Pos}
theorem IxR.or {r r' : R2} (h : IxR X r) (h' : IxR X r') : IxR X (fun x y H Q => r x y H Q ∨ r' x y H Q) := by
  intro value slice pins s σ H x y v u Q I rx ry q hs
  rcases q with q | q
  · exact h value slice pins s σ H x y v u Q I rx ry q hs
  · exact h' value slice pins s σ H x y v u Q I rx ry q hs
theorem MtR.or {id : String} {r r' : V → List V → Hp → VK → Prop} (h : MtR X id r) (h' : MtR X id r') : MtR X id (fun x xs H Q => r x xs H Q ∨ r' x xs H Q) := by
  intro pins s σ H x xs v us Q I rx rs q
  rcases q with q | q
  · exact h pins s σ H x xs v us Q I rx rs q
  · exact h' pins s σ H x xs v us Q I rx rs q
theorem pe_ix {r : R2} (hr : IxR X r) (ha : PE X a ta) (hb : PE X b tb) (hs : PlainIx b) : PE X (.Subscript a b pos) (tOp r ta tb) := by
  intro pins s σ H Q I h
  exact Subscript_ (binT ha hb I h fun v u s2 x y H2 I2 rx ry q => hr a b pins s2 σ H2 x y v u Q I2 rx ry q (hs _ _))
def rIxL (K : PySem.W.Frag) : R2 := fun x y H Q => ∃ p xs i v, x = .ref p ∧ y = .int i ∧ SqL K H p xs ∧ atI xs i = some v ∧ Q v H
def rIxT (K : PySem.W.Frag) : R2 := fun x y H Q => ∃ p xs i v, x = .ref p ∧ y = .int i ∧ SqT K H p xs ∧ atI xs i = some v ∧ Q v H
theorem ix_list : IxR X (rIxL X.K) := by
  intro value slice pins s σ H x y v u Q I rx ry h hs
  obtain ⟨p, xs, i, z, rfl, rfl, hq, he, q⟩ := h
  cases rx
  obtain ⟨t, rfl⟩ := ry
  obtain ⟨its, r, pl, hz⟩ := I.list hq
  obtain ⟨j, h1, h2, h3, h4, h5⟩ := atI_get he
  obtain ⟨w, ew, rw'⟩ := r.get h2
  have hl := r.length
  have hn := line63
  have fin : EP X pins σ Q w s := ⟨z, H, I, rw', q⟩
  by_cases h0 : 0 ≤ i
  · have hj : i.toNat = j := by
      rw [seqIndex_of h0 h5] at h1
      exact Option.some.inj h1
    exact item_listR pl.isList h0 (by omega) (by rw [hj]; simpa using ew) fin hs
  · have hj : (i + (its.toArray.size : Int)).toNat = j := by
      rw [seqIndex_neg (by omega) h4] at h1
      rw [List.size_toArray, ← hl]
      exact Option.some.inj h1
    exact subscriptTail_builtinR (x := w) pl.isList.typeIs slot_list_getitem.lookup
      (wpAny_getItem_list_neg (Q := fun r s' => r = w ∧ EP X pins σ Q r s') pl.isList (by omega) (by rw [List.size_toArray] <;> omega) (by omega) (by rw [hj]; simpa using ew) ⟨rfl, fin⟩) hs
theorem ix_tup : IxR X (rIxT X.K) := by
  intro value slice pins s σ H x y v u Q I rx ry h hs
  obtain ⟨p, xs, i, z, rfl, rfl, hq, he, q⟩ := h
  cases rx
  obtain ⟨t, rfl⟩ := ry
  obtain ⟨its, r, pl, hz⟩ := I.tuple hq
  obtain ⟨j, h1, h2, h3, h4, h5⟩ := atI_get he
  obtain ⟨w, ew, rw'⟩ := r.get h2
  have hl := r.length
  have hn := line63
  have fin : EP X pins σ Q w s := ⟨z, H, I, rw', q⟩
  exact subscriptTail_builtinR (x := w) pl.typeIs slot_tuple_getitem.lookup
    (getItem_tuple (j := j) (Q := fun r s' => r = w ∧ EP X pins σ Q r s') pl (by omega) (by omega) (by rw [List.size_toArray, ← hl]; exact h1) (by simpa using ew) ⟨rfl, fin⟩) hs
theorem Inv.lst {pins : List (Addr × Obj)} {σ : St} {H : Hp} {s : Shared} {p : Addr} {xs : List V} (I : Inv X pins σ H s) (h : H p = some (.lst xs)) :
    ∃ (its : List Value) (n : Nat), Vals xs its ∧ s.heap.get? p = some { cls := .type "list", data := .seq its.toArray n } ∧ xs.length ≤ sizeLine := by
  obtain ⟨z, its, n, r, e⟩ := I.hok p _ h
  exact ⟨its, n, r, e, z⟩
def rSetL : V → V → V → Hp → (Hp → Prop) → Prop := fun o i v H Q => ∃ p xs k j, o = .ref p ∧ i = .int k ∧ H p = some (.lst xs) ∧ ixN xs.length k = some j ∧ Q (upd H p (.lst (xs.set j v)))
theorem call_len_seq : CallR X (.builtin "len") (fun xs H Q => ∃ p ys, xs = [.ref p] ∧ (SqL X.K H p ys ∨ SqT X.K H p ys) ∧ Q (.int ys.length) H) := by
  intro pins s σ H xs us Q I r h
  obtain ⟨p, ys, rfl, hq, q⟩ := h
  obtain ⟨u, rfl, rx⟩ := vals1 r
  cases rx
  have hn := line63
  rcases hq with hq | hq
  · obtain ⟨its, r', pl, hz⟩ := I.list hq
    have hlen := r'.length
    exact Calls.call_len_list pl.isList (by simp only [List.size_toArray] <;> omega) ⟨.int ys.length, H, I.tok _, ⟨s.toks + 1, by rw [List.size_toArray, hlen]⟩, q⟩
  · obtain ⟨its, r', pl, hz⟩ := I.tuple hq
    have hlen := r'.length
    exact len_tuple pl (by simp only [List.size_toArray] <;> omega) ⟨.int ys.length, H, I.tok _, ⟨s.toks + 1, by rw [List.size_toArray, hlen]⟩, q⟩
theorem CallR.or {f : Value} {r r' : List V → Hp → VK → Prop} (h : CallR X f r) (h' : CallR X f r') : CallR X f (fun xs H Q => r xs H Q ∨ r' xs H Q) := by
  intro pins s σ H xs us Q I rs q
  rcases q with q | q
  · exact h pins s σ H xs us Q I rs q
  · exact h' pins s σ H xs us Q I rs q
theorem call_list_of : CallR X (.type "list") (fun xs H Q => ∃ p ys, xs = [.ref p] ∧ (SqL X.K H p ys ∨ SqT X.K H p ys) ∧ ∀ l, H l = none → Q (.ref l) (upd H l (.lst ys))) := by
  intro pins s σ H xs us Q I r h
  obtain ⟨p, ys, rfl, hq, q⟩ := h
  obtain ⟨u, rfl, rx⟩ := vals1 r
  cases rx
  have fin : ∀ (its : List Value), Vals ys its → ys.length ≤ sizeLine → ∀ (h' : Heap) (c' : Nat), (∀ b o', s.heap.get? b = some o' → h'.get? b = some o') →
      h'.get? s.heap.objs.size = some { cls := .type "list", dict := none, data := .seq its.toArray c', slots := #[] } → EP X pins σ Q (.ref s.heap.objs.size) { s with heap := h' } := fun its r' hz h' c' kp e =>
    ⟨.ref s.heap.objs.size, _, I.laid (t' := s.toks) kp (Nat.le_refl _) (show ObjOk X.prog X.w _ h' _ (.lst ys) from ⟨hz, its, c', r', e⟩), rfl, q _ (I.hok.fresh (Nat.le_refl _))⟩
  rcases hq with hq | hq
  · obtain ⟨its, r', pl, hz⟩ := I.list hq
    have hlen := r'.length
    obtain ⟨o, ho, hc, n, hd⟩ := pl.isList
    exact call_list_seq p (.inl rfl) ho hc hd (fun h' c' kp e => fin its r' hz h' c' kp e) (by simp only [List.size_toArray] <;> omega)
  · obtain ⟨its, r', pl, hz⟩ := I.tuple hq
    have hlen := r'.length
    obtain ⟨o, ho, hc, n, hd⟩ := pl
    exact call_list_seq p (.inr rfl) ho hc hd (fun h' c' kp e => fin its r' hz h' c' kp e) (by simp only [List.size_toArray] <;> omega)
def tyV (K : PySem.W.Frag) (T : String) (x : V) (H : Hp) : Prop := match x with
  | .str _ => T = "str"
  | .int _ => T = "int"
  | .ref p => (T = "list" ∧ ∃ xs, SqL K H p xs) ∨ (T = "tuple" ∧ ∃ o, K.lookup p = some o ∧ o.cls = .type "tuple" ∧ o.dict = none) ∨
      (T = "dict" ∧ ((∃ kvs, H p = some (.dK kvs)) ∨ ∃ kvs, H p = some (.dT kvs))) ∨ (T = "set" ∧ ∃ S n, H p = some (.set S n))
  | _ => False
theorem tyV_is {pins : List (Addr × Obj)} {σ : St} {H : Hp} {s : Shared} {T : String} {x : V} {v : Value} (I : Inv X pins σ H s) (r : RelV x v) (ty : tyV X.K T x H) :
    s.TypeIs v T ∧ ∀ a, v = .ref a → ∃ ob, s.heap.get? a = some ob ∧ ob.dict = none := by
  cases x with
  | str z =>
    obtain ⟨t, rfl⟩ := r
    cases (show T = "str" from ty)
    exact ⟨typeIs_str s z t, fun _ e => nomatch e⟩
  | int i =>
    obtain ⟨t, rfl⟩ := r
    cases (show T = "int" from ty)
    exact ⟨typeIs_int s i t, fun _ e => nomatch e⟩
  | ref p =>
    cases r
    rcases ty with ⟨rfl, xs, hq⟩ | ⟨rfl, o, hk, hc, hd⟩ | ⟨rfl, hk⟩ | ⟨rfl, S, n, hk⟩
    · obtain ⟨its, _, pl, _⟩ := I.list hq
      refine ⟨pl.isList.typeIs, fun a e => ?_⟩
      cases e
      obtain ⟨o, n, e, c, hd, _⟩ := pl
      exact ⟨o, e, hd⟩
    · refine ⟨⟨o, I.kIn p o hk, hc⟩, fun a e => ?_⟩
      cases e
      exact ⟨o, I.kIn _ o hk, hd⟩
    · have z : ∃ o, s.heap.get? p = some o ∧ o.ExactDict := by
        rcases hk with ⟨kvs, hk⟩ | ⟨kvs, hk⟩
        · obtain ⟨_, _, _, _, o, _, _, e, ex, _⟩ := I.hok p _ hk
          exact ⟨o, e, ex⟩
        · obtain ⟨_, _, _, _, o, _, _, e, ex, _⟩ := I.hok p _ hk
          exact ⟨o, e, ex⟩
      obtain ⟨o, e, ex⟩ := z
      refine ⟨⟨o, e, ex.1⟩, fun a e2 => ?_⟩
      cases e2
      exact ⟨o, e, ex.2.1⟩
    · obtain ⟨o, _, _, _, e, ex, _⟩ := I.hok p _ hk
      refine ⟨⟨o, e, ex.1⟩, fun a e2 => ?_⟩
      cases e2
      exact ⟨o, e, ex.2.1⟩
  | _ => exact False.elim ty
def tBM0 (K : PySem.W.Frag) (T : String) (r : V → List V → Hp → VK → Prop) (to : TE) : TE := fun σ H Q => to σ H fun x H1 => tyV K T x H1 ∧ r x [] H1 Q
def tBM (K : PySem.W.Frag) (T : String) (r : V → List V → Hp → VK → Prop) (to : TE) (t : TA) : TE := fun σ H Q => to σ H fun x H1 => tyV K T x H1 ∧ t σ H1 fun xs H2 => r x xs H2 Q
variable {o e : Expr} {es : List Expr} {to : TE} {t : TA} {name : Str} {apos cpos : Pos} {T id : String} {r : V → List V → Hp → VK → Prop}
theorem pe_bm0 (pa : PlainAttrs T) (slot : Slot T name id) (hty : typeOf (.builtin id) = pure (.type "method_descriptor")) (hm : MtR X id r) (ho : PE X o to)
    (hbase : attributeBase o name X.env (eval o X.env) = eval o X.env := by rfl) (hline : (apos.endLine == cpos.line) = true := by rfl) : PE X (.Call (.Attribute o name apos) [] [] cpos) (tBM0 X.K T r to) := by
  intro pins s σ H Q I h
  refine wpAny_Call_method0_late hbase hline (thn (ho pins s σ H _ I h) fun v s1 ⟨x, H1, I1, r1, ty, q1⟩ => ?_)
  obtain ⟨h1, h2⟩ := tyV_is I1 r1 ty
  exact ⟨T, id, pa, slot, hty, h1, h2, Calls.callWith_builtin rfl (PySem.evalArgs_none (hm pins s1 σ H1 x [] v [] Q I1 r1 .nil q1))⟩
theorem pe_bm (pa : PlainAttrs T) (slot : Slot T name id) (hty : typeOf (.builtin id) = pure (.type "method_descriptor")) (hm : MtR X id r) (ho : PE X o to) (ha : PA X (e :: es) t)
    (hbase : attributeBase o name X.env (eval o X.env) = eval o X.env := by rfl)
    (hfew : ((backTo cpos (starEach (e :: es) X.env)).all (fun x => !x.1) && (backToKw cpos (keywordEach [] X.env)).all (fun x => x.1.isSome)
      && decide ((e :: es).length + ([] : List Keyword).length + (if ([] : List Keyword).isEmpty then 0 else 1) < 30)) = true := by rfl)
    (hline : (apos.endLine == cpos.line) = true := by rfl) (hs : starEach (e :: es) X.env = (false, eval e X.env) :: starEach es X.env := by rfl) (hplain : (backTo cpos (starEach es X.env)).any (·.1) = false := by rfl) :
    PE X (.Call (.Attribute o name apos) (e :: es) [] cpos) (tBM X.K T r to t) := by
  intro pins s σ H Q I h
  refine wpAny_Call_method_late hbase hfew hline rfl (thn (ho pins s σ H _ I h) fun v s1 ⟨x, H1, I1, r1, ty, q1⟩ => ?_)
  obtain ⟨h1, h2⟩ := tyV_is I1 r1 ty
  refine ⟨T, id, pa, slot, hty, h1, h2, ?_⟩
  have hA := ha cpos pins s1 σ H1 _ I1 q1
  rw [hs] at hA ⊢
  refine Calls.callWith_builtin (by show (false || (backTo cpos (starEach es X.env)).any (·.1)) = false; rw [hplain] <;> rfl) (Calls.evalArgs_plain ?_)
  exact thn hA fun us s2 ⟨vs, H2, I2, r2, q2⟩ => hm pins s2 σ H2 x vs v us Q I2 r1 r2 q2
end
end L2
namespace L2
open PySem PySem.Spec PyProof.Rows
def MtM (X : Cx) (id : String) (r : V → List V → Hp → VK → Prop) : Prop :=
  ∀ (pins : List (Addr × Obj)) (s : Shared) (σ : St) (H : Hp) (x : V) (xs : List V) (v : Value) (us : List Value) (Q : VK), Inv X pins σ H s → RelV x v → Vals xs us → r x xs H Q →
    wpAny (model X.prog X.w) X.A (call (.builtin id) (v :: us)) (EP X pins σ Q) X.xe s
theorem Vals.one : ∀ {x : V} {us : List Value}, Vals [x] us → ∃ u, us = [u] ∧ RelV x u
  | _, _, .cons r .nil => ⟨_, rfl, r⟩
theorem Vals.two : ∀ {x y : V} {us : List Value}, Vals [x, y] us → ∃ u v, us = [u, v] ∧ RelV x u ∧ RelV y v
  | _, _, _, .cons r (.cons q .nil) => ⟨_, _, rfl, r, q⟩
theorem Vals.zero : ∀ {us : List Value}, Vals [] us → us = []
  | _, .nil => rfl
theorem Vals.reverse {xs : List V} {us : List Value} (h : Vals xs us) : Vals xs.reverse us.reverse := by
  induction h with
  | nil => exact .nil
  | cons r t ih => rw [List.reverse_cons, List.reverse_cons]; exact Vals.append ih (.cons r .nil)
section
variable {X : Cx} {pins : List (Addr × Obj)} {σ : St} {H : Hp} {s : Shared} {l b : Addr} {xs ys zs : List V}
theorem Inv.lset {its its' : List Value} {n : Nat} {f : Array Value → Array Value} {t' : Nat} (I : Inv X pins σ H s) (hH : H l = some (.lst xs))
    (e : s.heap.get? l = some { cls := .type "list", data := .seq its.toArray n }) (hf : f its.toArray = its'.toArray) (hv : Vals ys its') (hz : ys.length ≤ sizeLine) :
    Inv X pins σ (upd H l (.lst ys)) { s with heap := s.heap.update l (Obj.mapSeq f), toks := t' } := by
  have q := PySem.IsL.update e f
  rw [hf] at q
  refine I.write (x := l) (e := l) (by rw [hH]; exact trivial) (.inl rfl) (fun b' u hb hu => (Heap.get?_update_other s.heap (Obj.mapSeq f) (Ne.symm hb)).trans hu) ⟨_, q⟩ ?_
  exact ⟨hz, its', _, hv, q⟩
theorem Inv.lnew {its : List Value} {t' : Nat} (I : Inv X pins σ H s) (hv : Vals ys its) (hz : ys.length ≤ sizeLine) :
    Inv X pins σ (upd H s.heap.objs.size (.lst ys)) { s with heap := s.heap.push { cls := .type "list", data := .seq its.toArray }, toks := t' } :=
  I.laid (fun _ _ q => Heap.get?_push_of_some _ q) (Nat.le_refl _) ⟨hz, its, 0, hv, Heap.get?_push_size _ rfl⟩
theorem Inv.fresh (I : Inv X pins σ H s) : H s.heap.objs.size = none := I.hok.fresh (Nat.le_refl _)
theorem Inv.lstM (I : Inv X pins σ H s) (hH : H l = some (.lst xs)) : xs.length ≤ sizeLine ∧ ∃ (its : List Value) (n : Nat), Vals xs its ∧ xs.length = its.length ∧ s.heap.get? l = some { cls := .type "list", data := .seq its.toArray n } := by
  obtain ⟨z, its, n, r, e⟩ := I.hok l _ hH
  exact ⟨z, its, n, r, r.length, e⟩
theorem notLongL {n : Nat} (h : n ≤ sizeLine) : Builtin.List.listTooLong n = false := by
  unfold Builtin.List.listTooLong
  exact decide_eq_false (by omega)
end
section
variable {X : Cx}
def rAppend : V → List V → Hp → VK → Prop := fun x vs H Q => ∃ l xs y, x = .ref l ∧ vs = [y] ∧ H l = some (.lst xs) ∧ xs.length < sizeLine ∧ Q .non (upd H l (.lst (xs ++ [y])))
theorem mt_append : MtM X "list.append" rAppend := by
  intro pins s σ H x vs v us Q I rx rv h
  obtain ⟨l, xs, y, rfl, rfl, hH, hz, q⟩ := h
  cases rx
  obtain ⟨u, rfl, ru⟩ := rv.one
  obtain ⟨z, its, n, r, hl, e⟩ := I.lstM hH
  refine call_meets F.slot_list_append ⟨_, e, rfl⟩ F.entry_list_append (F.args_list_append_2 _ _) (PySem.list_append l its.toArray n u (by rw [List.size_toArray]; omega)) ⟨e, ?_⟩
  refine ⟨.non, _, I.lset (its' := its ++ [u]) hH e (by simp) (r.append (.cons ru .nil)) ?_, rfl, q⟩
  rw [List.length_append, List.length_singleton]
  omega
def rClear : V → List V → Hp → VK → Prop := fun x vs H Q => ∃ l xs, x = .ref l ∧ vs = [] ∧ H l = some (.lst xs) ∧ Q .non (upd H l (.lst []))
theorem mt_clear : MtM X "list.clear" rClear := by
  intro pins s σ H x vs v us Q I rx rv h
  obtain ⟨l, xs, rfl, rfl, hH, q⟩ := h
  cases rx
  have hus := rv.zero
  subst hus
  obtain ⟨z, its, n, r, hl, e⟩ := I.lstM hH
  refine call_meets F.slot_list_clear ⟨_, e, rfl⟩ F.entry_list_clear (F.args_list_clear_1 _) (AutoSeq1.list_clear_list_0 l its.toArray n (by rw [List.size_toArray]; omega)) ⟨e, ?_⟩
  exact ⟨.non, _, I.lset (its' := []) (ys := []) hH e rfl .nil (Nat.zero_le _), rfl, q⟩
def rCat : R2 := fun x y H Q => ∃ l b xs zs, x = .ref l ∧ y = .ref b ∧ H l = some (.lst xs) ∧ H b = some (.lst zs) ∧ xs.length + zs.length ≤ sizeLine ∧ ∀ p, H p = none → Q (.ref p) (upd H p (.lst (xs ++ zs)))
theorem op_cat : OpR X (binaryOp .Add) rCat := by
  intro pins s σ H x y v u Q I rx ry h
  obtain ⟨l, b, xs, zs, rfl, rfl, hH, hB, hz, q⟩ := h
  cases rx
  cases ry
  obtain ⟨z, its, n, r, hl, e⟩ := I.lstM hH
  obtain ⟨z2, its2, n2, r2, hl2, e2⟩ := I.lstM hB
  refine PySem.P.add_list e e2 ?_ (by rw [List.size_toArray, List.size_toArray]; omega)
  have ea : its.toArray ++ its2.toArray = (its ++ its2).toArray := by simp
  rw [ea]
  exact ⟨.ref _, _, I.lnew (t' := s.toks) (r.append r2) (by rw [List.length_append]; omega), rfl, q _ I.fresh⟩
end
section
variable {prog : Program} {w : World} {A : Around} {E : Value → Shared → Prop} {s : Shared}
end
section
variable {X : Cx}
end
end L2
namespace Att
open PySem PySem.W PySem.Calls PyProof.Rows
theorem ints_of_wellAll {P : Params} {h : Heap} : ∀ (ns : List Int) (vs : List Value), WellAll P h vs (ns.map WData.int) → IntsAre vs ns := by
  intro ns
  induction ns with
  | nil =>
    intro vs w
    rw [List.map_nil] at w
    cases w
    exact .nil
  | cons n ns ih =>
    intro vs w
    rw [List.map_cons] at w
    cases w with
    | cons a b =>
      cases a
      exact .cons _ _ (ih _ b)
theorem script_of {l : OpenLaw} {n : Nat} (hn : l.most = some n) {P : Params} {h : Heap} {args : List WData} {vals : List Value}
    (hpre : l.row.toRowW.claim.pre args = true) (hwl : WellAll P h vals args) :
    ∃ a vs ns, vals = [Value.ref a] ∧ args = [WData.list (ns.map WData.int)] ∧ h.get? a = some { cls := .type "list", data := .seq vs.toArray } ∧ IntsAre vs ns ∧ ns.length ≤ n := by
  have hsh : WShape.hasAll [] args [.list .int] = true := (pre_splitW hpre).1
  have hc : l.pre.holds [] { args := args } = true := (pre_splitW hpre).2
  obtain ⟨d, r, rfl, h1, h2⟩ := hasAllW_cons hsh
  obtain rfl := hasAllW_nil h2
  obtain ⟨xs, rfl, h3⟩ := hasW_list h1
  obtain ⟨ns, rfl⟩ := items_int h3
  have hlen : ns.length ≤ n := by
    unfold OpenLaw.pre at hc
    have h4 : (WTm.not (.lt (.lit (.int (n : Int))) (.len (.arg 0)))).holds [] { args := [.list (ns.map .int)] } = true := by
      have h4 := (holds_andW hc).1
      rw [hn] at h4
      exact h4
    have h5 := condW_of h4 (w_not (w_lt w_lit (w_len_list (w_arg rfl))))
    rw [List.length_map] at h5
    refine Nat.le_of_not_lt fun q => ?_
    have q' : (n : Int) < ((ns.length : Nat) : Int) := by omega
    first
      | (rw [decide_eq_true q'] at h5; exact absurd h5 (by decide))
      | (simp at h5; omega)
  cases hwl with
  | cons w1 w2 =>
    cases w2
    cases w1 with
    | list ho hall => exact ⟨_, _, ns, rfl, rfl, ho, ints_of_wellAll ns _ hall, hlen⟩
theorem post_true (l : OpenLaw) (args : List WData) : l.row.toRowW.claim.post args (.bool true) args = true :=
  postW_of (r := l.row.toRowW) (X := (true == true))
    (show WShape.has [] (.bool true) .bool = true by first | rfl | decide | simp [WShape.has, WShape.arms, WShape.armsAll])
    (show (WTm.eq .res (.lit (.bool true))).value [] { args := args, res := some (.bool true), after := args } = some (.bool (true == true)) from w_eq_bool (w_res rfl) w_lit) rfl
theorem attach_call {l : OpenLaw} {n : Nat} {q : Program} {loose : List Str} {XP : (Str → Option Value) → Heap → Prop} {YP : World → Heap → Prop} {d : DefRec}
    (hn : l.most = some n) (hdf : d.params.defaults = [])
    (call : ∀ (w : World) (s₀ s₁ : Shared) (mg mb : Str → Option Value) (fa : Addr) (o : Obj) (pm cd doc : Value) (a : Addr) (vs : List Value) (ns : List Int),
      Ground q loose [] XP w s₀ mg mb s₁.heap → YP w s₁.heap →
      s₁.heap.get? fa = some o → o.data = .func (docDef d.name d.params d.body d.scope pm cd doc) → s₁.heap.CodeRec cd d.name → mg d.name = some (.ref fa) →
      s₁.heap.get? a = some { cls := .type "list", data := .seq vs.toArray } → IntsAre vs ns → ns.length ≤ n → s₁.gens = #[] →
      codeAny (model l.prog w) callerA (.call (.ref fa) ⟨[.ref a], []⟩) (fun r s' => r = .ok (.ret (.bool true)) ∧ OldK s₁.heap s'.heap ∧ s'.os = s₁.os ∧ AllBare s'.gens) s₁) :
    WalkO q loose XP YP l.row.toRowW d [] (fun f vs => PySem.call f vs) := by
  intro w s₀ s₁ mg mb G Y fa o pm cd doc dV kV ho hd hcd hD hmg hg args vals as hpre hlay hrd hwl hlo
  obtain rfl : dV = .none := Dflts.none hD hdf
  obtain rfl : kV = .none := Dflts.noKw hD
  obtain ⟨a, vs, ns, rfl, rfl, hobj, hints, hlen⟩ := script_of hn hpre hwl
  refine enter_call (codeAny_mono (call w s₀ s₁ mg mb fa o pm cd doc a vs ns G Y ho (fd_plain hd) hcd hmg hobj hints hlen hg) fun r s' hq => ?_)
  obtain ⟨rfl, h2, h3, h4⟩ := hq
  exact ⟨.inl ⟨.bool true, .bool true, [], rfl, fun _ => rfl, .bool true, post_true l _, fun _ => ⟨List.Pairwise.nil, fun _ hm => (nomatch hm)⟩⟩, h2, h3, h4⟩
section
variable {prog : Program} {w : World} {A : Around} {E : Value → Shared → Prop} {s : Shared} {K : Frag}
end
end Att
namespace L2
open PySem PySem.Spec PyProof.Rows
theorem vals_ints : ∀ {vs : List Value} {ns : List Int}, IntsAre vs ns → Vals (ns.map V.int) vs
  | _, _, .nil => .nil
  | _, _, .cons n t h => .cons ⟨t, rfl⟩ (vals_ints h)
end L2
namespace L2
open PySem PySem.Spec PyProof.Rows
end L2
namespace L2
open PySem PySem.Spec PyProof.Rows
def defArgs (s : Stmt) : Arguments := match s with
  | .FunctionDef _ a _ _ _ _ _ _ _ _ => a
  | _ => { posonlyargs := [], args := [], vararg := none, kwonlyargs := [], kw_defaults := [], kwarg := none, defaults := [] }
def defBody (s : Stmt) : List Stmt := match s with
  | .FunctionDef _ _ b _ _ _ _ _ _ _ => b
  | _ => []
def defScope (s : Stmt) : Scope := match s with
  | .FunctionDef _ _ _ _ _ _ sc _ _ _ => sc
  | _ => { kind := .function, names := [], isGenerator := false, isCoroutine := false }
abbrev CX0 : CXT := fun _ _ _ _ _ _ => False
abbrev E0 : XK := fun _ _ _ => False
theorem pass0 {X : Cx} : Passes CX0 X E0 := fun _ _ _ _ _ _ _ h => h.elim
structure Fun (K : PySem.W.Frag) (x qual : Str) (st : Stmt) (f : Addr) (fd : FuncData) : Prop where
  ex : ∃ (oc : Value) (od : Option Addr) (kV doc pm : Value) (an : Option Addr) (cdv ct : Value) (osl : Array (Option Value)),
    fd = PySem.W.fnOf x qual (defArgs st) (defBody st) (defScope st) .none kV doc pm an cdv ct ∧ K.lookup f = some ⟨oc, od, .func fd, osl⟩ ∧ PySem.W.codeIn K cdv qual = true
  kp : PySem.W.keepIn K (.ref f) = true
section
variable {P : Program} {w : World} {K : PySem.W.Frag} {mg : Str → Option Value} {base : Heap}
theorem Fun.ok {x qual : Str} {st : Stmt} {f : Addr} {fd : FuncData} {N ps : List Str} {k : Nat} {sp : Sp} (F : Fun K x qual st f fd) (S : FnScope N ps (defScope st)) (len : ∀ vs H Q E, sp vs H Q E → vs.length = ps.length)
    (hbody : ∀ (cdv : Value) (A : Around) (outer : List Env) (s : Shared) (H : Hp) (vs : List V) (Q : VK) (E : XK), Room k (A.deeper (envOfC qual (defScope st) s.heap.objs.size f cdv)) → sp vs H Q E →
      ∃ t, PSs (cxOf CX0 P w K mg base N qual (defScope st) f cdv A outer s H E).nox (defBody st) t ∧ t { nx := fun _ H' => Q .non H', rt := Q } (start N vs) H) : FnOk P w K mg base CX0 (k + 1) f fd ps sp := by
  obtain ⟨oc, od, kV, doc, pm, an, cdv, ct, osl, rfl, lk, hcd⟩ := F.ex
  refine fn_of lk hcd S len fun A outer s H vs Q E hr hsp => ?_
  obtain ⟨t, h, q⟩ := hbody cdv A outer s H vs Q E hr hsp
  exact ⟨t, h.nox, q⟩
theorem Fun.binds {x qual : Str} {st : Stmt} {f : Addr} {fd : FuncData} {ps : List Str} (F : Fun K x qual st f fd)
    (h : ∀ (kV doc pm : Value) (an : Option Addr) (cdv ct : Value) (us : List Value), us.length = ps.length → bindArgs (PySem.W.fnOf x qual (defArgs st) (defBody st) (defScope st) .none kV doc pm an cdv ct) ⟨us, []⟩ = pure (ps.zip us)) : Binds K fd ps [] := by
  obtain ⟨oc, od, kV, doc, pm, an, cdv, ct, osl, rfl, lk, hcd⟩ := F.ex
  exact .all (h kV doc pm an cdv ct)
theorem fun_mk {x qual : Str} {st : Stmt} {f : Addr} {oc : Value} {od an : Option Addr} {osl : Array (Option Value)} {kV doc pm cdv ct : Value} (l : K.lookup f = some ⟨oc, od, .func (PySem.W.fnOf x qual (defArgs st) (defBody st) (defScope st) .none kV doc pm an cdv ct), osl⟩)
    (c : PySem.W.codeIn K cdv qual = true) (k : PySem.W.keepIn K (.ref f) = true) : Fun K x qual st f (PySem.W.fnOf x qual (defArgs st) (defBody st) (defScope st) .none kV doc pm an cdv ct) := ⟨⟨oc, od, kV, doc, pm, an, cdv, ct, osl, rfl, l, c⟩, k⟩
end
theorem hu_of {A : Around} {k : Nat} (hr : Room k A) : A.units + 1 < cLine := Nat.lt_of_le_of_lt (Nat.add_le_add_left (by decide : 1 ≤ 64) _) hr.units
theorem small1000 {n : Nat} (h : n ≤ 1000) : n < sizeLine := Nat.lt_of_le_of_lt h (by decide)
section
variable {X : Cx}
theorem pv (i : Nat) {x : Str} {pos : Pos} (hN : X.N[i]? = some x := by rfl) (hv : Vis X.env.scope x := by first | exact Or.inl rfl | exact Or.inr (Or.inl rfl) | exact Or.inr (Or.inr rfl)) (hd : (x == ("__debug__" : Str)) = false := by decide)
    (hcd : (x == ("__classdict__" : Str)) = false := by decide) : PE X (.Name x pos) (tVar i) := pe_var hN hv hd hcd
end
theorem iteF {A B : Prop} (h : B) : if false = true then A else B := by
  rw [if_neg Bool.false_ne_true]
  exact h
theorem iteT {A B : Prop} (h : A) : if true = true then A else B := by
  rw [if_pos rfl]
  exact h
theorem ite2 {c A B : Prop} [Decidable c] (h1 : c → A) (h2 : ¬ c → B) : if c then A else B := by
  by_cases h : c
  · rw [if_pos h]
    exact h1 h
  · rw [if_neg h]
    exact h2 h
def Same (H H' : Hp) : Prop := ∀ b o, H b = some o → H' b = some o
theorem Same.refl (H : Hp) : Same H H := fun _ _ h => h
theorem Same.trans {H H1 H2 : Hp} (a : Same H H1) (b : Same H1 H2) : Same H H2 := fun c o h => b c o (a c o h)
theorem Same.free {H H' : Hp} (e : Same H H') {l : Addr} (h : H' l = Option.none) : H l = Option.none := by
  cases q : H l with
  | none => rfl
  | some o =>
    rw [e l o q] at h
    cases h
theorem Same.seq {K : PySem.W.Frag} {H H' : Hp} {a : Addr} {xs : List V} (e : Same H H') (h : SqL K H a xs) : SqL K H' a xs := by
  rcases h with (h | ⟨o, h⟩) | h
  · exact .inl (.inl (e _ _ h))
  · exact .inl (.inr ⟨o, e _ _ h⟩)
  · exact .inr h
end L2
set_option Elab.async false
set_option linter.all false
set_option maxRecDepth 100000
set_option maxHeartbeats 4000000
namespace L2
open PySem PySem.Spec PyProof.Rows
section
variable {X : Cx}
def CBig (i j : Int) : Prop := i.natAbs < 2 ^ 1000000 ∧ j.natAbs < 2 ^ 1000000
theorem CBig.ok {i j : Int} (h : CBig i j) : IntMulOk i j :=
  PySem.IntMulOk.of_le (PySem.intBits_le_iff.mpr h.1) (PySem.intBits_le_iff.mpr h.2) (by decide)
theorem op_mulB : OpR X (binaryOp .Mult) (rI CBig fun i j => .int (i * j)) := opI fun _ _ _ _ _ _ _ hc q => mul_int q hc.ok
def CDivB (_i j : Int) : Prop := j ≠ 0 ∧ j.natAbs < 2 ^ 8999
theorem op_fdivB : OpR X (binaryOp .FloorDiv) (rI CDivB fun i j => .int (i.fdiv j)) := opI fun _ j _ _ _ _ _ hc q => by
  refine floordiv_int hc.1 q (.inl (PyProof.noPylong_of_log2 ?_))
  have h0 : j.natAbs ≠ 0 := by have := hc.1; omega
  have := (Nat.log2_lt h0).mpr hc.2
  omega
theorem bt_len : bootBuiltins "len" = some (.builtin "len") := by decide +kernel
theorem bt_isinstance : bootBuiltins "isinstance" = some (.builtin "isinstance") := by decide +kernel
theorem bt_int : bootBuiltins "int" = some (.type "int") := by decide +kernel
theorem bt_bool : bootBuiltins "bool" = some (.type "bool") := by decide +kernel
theorem bt_tuple : bootBuiltins "tuple" = some (.type "tuple") := by decide +kernel
theorem bt_list : bootBuiltins "list" = some (.type "list") := by decide +kernel
def dictO (a : Addr) : HO := .ext fun h => ∃ o, h.get? a = some o ∧ o.cls = .type "dict"
def tyN (K : PySem.W.Frag) (H : Hp) (x : V) (T : String) : Prop := match x with
  | .non => T = "NoneType"
  | .bl _ => T = "bool"
  | .int _ => T = "int"
  | .str _ => T = "str"
  | .ref p => (T = "list" ∧ ∃ xs, SqL K H p xs) ∨ (T = "tuple" ∧ ∃ xs, SqT K H p xs) ∨ (T = "dict" ∧ H p = some (dictO p))
  | _ => False
theorem tyN_is {pins : List (Addr × Obj)} {σ : St} {H : Hp} {s : Shared} {T : String} {x : V} {v : Value} (I : Inv X pins σ H s) (r : RelV x v) (ty : tyN X.K H x T) : s.TypeIs v T := by
  cases x with
  | non => cases r; cases (show T = "NoneType" from ty); rfl
  | bl b => cases r; cases (show T = "bool" from ty); rfl
  | int i => obtain ⟨t, rfl⟩ := r; cases (show T = "int" from ty); exact typeIs_int s i t
  | str z => obtain ⟨t, rfl⟩ := r; cases (show T = "str" from ty); exact typeIs_str s z t
  | ref p =>
    cases r
    rcases ty with ⟨rfl, xs, hq⟩ | ⟨rfl, xs, hq⟩ | ⟨rfl, hq⟩
    · obtain ⟨its, _, pl, _⟩ := I.list hq
      exact pl.isList.typeIs
    · obtain ⟨its, _, ⟨o, e, c, _⟩, _⟩ := I.tuple hq
      exact ⟨o, e, c⟩
    · obtain ⟨⟨o, e, c⟩, _⟩ := I.hok p _ hq
      exact ⟨o, e, c⟩
  | _ => exact False.elim ty
theorem isi_gen {pins : List (Addr × Obj)} {σ : St} {H : Hp} {s : Shared} {Tx T : String} {b : Bool} {x : V} {v : Value} {Q : VK} (hne : b = false → (Value.type Tx == Value.type T) = false)
    (hty : typeOf (.type T) = pure (.type "type")) (hsub : isSubtype (.type Tx) (.type T) = pure b) (I : Inv X pins σ H s) (r : RelV x v) (ht : tyN X.K H x Tx) (q : Q (.bl b) H) :
    wpAny (model X.prog X.w) X.A (call (.builtin "isinstance") [v, .type T]) (EP X pins σ Q) X.xe s := by
  cases b with
  | true => exact call_isinstance_yes (tyN_is I r ht) hty hsub ⟨.bl true, H, I, rfl, q⟩
  | false =>
    have hq : EP X pins σ Q (.bool false) { s with toks := s.toks + 1 } := ⟨.bl false, H, I.tok _, rfl, q⟩
    cases x with
    | non => cases r; cases (show Tx = "NoneType" from ht); exact call_isinstance (isinstance_false_none (hne rfl) hty hsub) hq
    | bl b => cases r; cases (show Tx = "bool" from ht); exact call_isinstance (isinstance_false_bool (hne rfl) hty hsub) hq
    | int i => obtain ⟨t, rfl⟩ := r; cases (show Tx = "int" from ht); exact call_isinstance (isinstance_false_int (hne rfl) hty hsub) hq
    | str z => obtain ⟨t, rfl⟩ := r; cases (show Tx = "str" from ht); exact call_isinstance (isinstance_false_str (hne rfl) hty hsub) hq
    | ref p =>
      have ty := tyN_is I r ht
      cases r
      rcases ht with ⟨rfl, xs, hs⟩ | ⟨rfl, xs, hs⟩ | ⟨rfl, hs⟩
      · exact call_isinstance (isinstance_false_list (hne rfl) hty hsub) ⟨ty, hq⟩
      · exact call_isinstance (isinstance_false_tuple (hne rfl) hty hsub) ⟨ty, hq⟩
      · exact call_isinstance (isinstance_false_dict (hne rfl) hty hsub) ⟨ty, hq⟩
    | _ => exact False.elim ht
def isiB (Tx T : String) : Bool := (Tx == T) || (Tx == "bool" && T == "int")
theorem meta_int : typeOf (.type "int") = pure (.type "type") := by kernel_rfl
theorem meta_bool : typeOf (.type "bool") = pure (.type "type") := by kernel_rfl
theorem meta_tuple : typeOf (.type "tuple") = pure (.type "type") := by kernel_rfl
theorem meta_list : typeOf (.type "list") = pure (.type "type") := by kernel_rfl
theorem tyN_in {K : PySem.W.Frag} {H : Hp} {x : V} {T : String} (h : tyN K H x T) : T = "NoneType" ∨ T = "bool" ∨ T = "int" ∨ T = "str" ∨ T = "list" ∨ T = "tuple" ∨ T = "dict" := by
  cases x with
  | non => exact .inl h
  | bl b => exact .inr (.inl h)
  | int i => exact .inr (.inr (.inl h))
  | str z => exact .inr (.inr (.inr (.inl h)))
  | ref p =>
    rcases h with ⟨h, _⟩ | ⟨h, _⟩ | ⟨h, _⟩
    · exact .inr (.inr (.inr (.inr (.inl h))))
    · exact .inr (.inr (.inr (.inr (.inr (.inl h)))))
    · exact .inr (.inr (.inr (.inr (.inr (.inr h)))))
  | _ => exact False.elim h
def rIsi (K : PySem.W.Frag) (T : String) : List V → Hp → VK → Prop := fun xs H Q => ∃ x Tx, xs = [x, .ty T] ∧ tyN K H x Tx ∧ Q (.bl (isiB Tx T)) H
theorem isi_T {T : String} (hty : typeOf (.type T) = pure (.type "type")) (h1 : isSubtype (.type "NoneType") (.type T) = pure (isiB "NoneType" T)) (h2 : isSubtype (.type "bool") (.type T) = pure (isiB "bool" T)) (h3 : isSubtype (.type "int") (.type T) = pure (isiB "int" T))
    (h4 : isSubtype (.type "str") (.type T) = pure (isiB "str" T)) (h5 : isSubtype (.type "list") (.type T) = pure (isiB "list" T)) (h6 : isSubtype (.type "tuple") (.type T) = pure (isiB "tuple" T)) (h7 : isSubtype (.type "dict") (.type T) = pure (isiB "dict" T))
    (hn : ∀ Tx ∈ ["NoneType", "bool", "int", "str", "list", "tuple", "dict"], isiB Tx T = false → (Value.type Tx == Value.type T) = false) : CallR X (.builtin "isinstance") (rIsi X.K T) := by
  intro pins s σ H xs us Q I r h
  obtain ⟨x, Tx, rfl, ht, q⟩ := h
  obtain ⟨u, w', rfl, ru, rw'⟩ := vals2 r
  cases rw'
  rcases tyN_in ht with rfl | rfl | rfl | rfl | rfl | rfl | rfl
  · exact isi_gen (hn _ (by simp)) hty h1 I ru ht q
  · exact isi_gen (hn _ (by simp)) hty h2 I ru ht q
  · exact isi_gen (hn _ (by simp)) hty h3 I ru ht q
  · exact isi_gen (hn _ (by simp)) hty h4 I ru ht q
  · exact isi_gen (hn _ (by simp)) hty h5 I ru ht q
  · exact isi_gen (hn _ (by simp)) hty h6 I ru ht q
  · exact isi_gen (hn _ (by simp)) hty h7 I ru ht q
theorem call_isi_int : CallR X (.builtin "isinstance") (rIsi X.K "int") := isi_T meta_int (by rw [isSubtype_type]; kernel_rfl) (by rw [isSubtype_type]; kernel_rfl) (by rw [isSubtype_type]; kernel_rfl) (by rw [isSubtype_type]; kernel_rfl) (by rw [isSubtype_type]; kernel_rfl) (by rw [isSubtype_type]; kernel_rfl) (by rw [isSubtype_type]; kernel_rfl) (by decide +kernel)
theorem call_isi_bool : CallR X (.builtin "isinstance") (rIsi X.K "bool") := isi_T meta_bool (by rw [isSubtype_type]; kernel_rfl) (by rw [isSubtype_type]; kernel_rfl) (by rw [isSubtype_type]; kernel_rfl) (by rw [isSubtype_type]; kernel_rfl) (by rw [isSubtype_type]; kernel_rfl) (by rw [isSubtype_type]; kernel_rfl) (by rw [isSubtype_type]; kernel_rfl) (by decide +kernel)
theorem call_isi_tuple : CallR X (.builtin "isinstance") (rIsi X.K "tuple") := isi_T meta_tuple (by rw [isSubtype_type]; kernel_rfl) (by rw [isSubtype_type]; kernel_rfl) (by rw [isSubtype_type]; kernel_rfl) (by rw [isSubtype_type]; kernel_rfl) (by rw [isSubtype_type]; kernel_rfl) (by rw [isSubtype_type]; kernel_rfl) (by rw [isSubtype_type]; kernel_rfl) (by decide +kernel)
theorem call_isi_list : CallR X (.builtin "isinstance") (rIsi X.K "list") := isi_T meta_list (by rw [isSubtype_type]; kernel_rfl) (by rw [isSubtype_type]; kernel_rfl) (by rw [isSubtype_type]; kernel_rfl) (by rw [isSubtype_type]; kernel_rfl) (by rw [isSubtype_type]; kernel_rfl) (by rw [isSubtype_type]; kernel_rfl) (by rw [isSubtype_type]; kernel_rfl) (by decide +kernel)
end
end L2
set_option Elab.async false
set_option linter.all false
set_option maxRecDepth 100000
set_option maxHeartbeats 4000000
namespace L2
open PySem PySem.Spec PyProof.Rows
theorem cx_K {CX : CXT} {P : Program} {w : World} {K : PySem.W.Frag} {mg : Str → Option Value} {base : Heap} {N : List Str} {qual : Str} {scope : Scope} {f : Addr} {cd : Value} {A : Around} {outer : List Env} {s : Shared} {H : Hp} {E : XK} :
    (cxOf CX P w K mg base N qual scope f cd A outer s H E).K = K := rfl
theorem tyN_non {K : PySem.W.Frag} {H : Hp} {T : String} : tyN K H .non T = (T = "NoneType") := rfl
theorem tyN_bl {K : PySem.W.Frag} {H : Hp} {T : String} {b : Bool} : tyN K H (.bl b) T = (T = "bool") := rfl
theorem tyN_int {K : PySem.W.Frag} {H : Hp} {T : String} {i : Int} : tyN K H (.int i) T = (T = "int") := rfl
theorem tyN_str {K : PySem.W.Frag} {H : Hp} {T : String} {x : Str} : tyN K H (.str x) T = (T = "str") := rfl
theorem isi_ii : isiB "int" "int" = true := by decide +kernel
theorem isi_ib : isiB "int" "bool" = false := by decide +kernel
theorem isi_it : isiB "int" "tuple" = false := by decide +kernel
theorem isi_il : isiB "int" "list" = false := by decide +kernel
theorem isi_bi : isiB "bool" "int" = true := by decide +kernel
theorem isi_bb : isiB "bool" "bool" = true := by decide +kernel
theorem isi_ni : isiB "NoneType" "int" = false := by decide +kernel
theorem isi_si : isiB "str" "int" = false := by decide +kernel
theorem isi_ti : isiB "tuple" "int" = false := by decide +kernel
theorem isi_li : isiB "list" "int" = false := by decide +kernel
theorem isi_di : isiB "dict" "int" = false := by decide +kernel
theorem isi_tt : isiB "tuple" "tuple" = true := by decide +kernel
theorem isi_ll : isiB "list" "list" = true := by decide +kernel
theorem scal_ii {i j : Int} : scal (.int i) (.int j) = true := rfl
theorem scal_bb {i j : Bool} : scal (.bl i) (.bl j) = true := rfl
theorem Same.tup {K : PySem.W.Frag} {H H' : Hp} {a : Addr} {xs : List V} (e : Same H H') (h : SqT K H a xs) : SqT K H' a xs := by
  rcases h with (h | ⟨o, h⟩) | h
  · exact .inl (.inl (e _ _ h))
  · exact .inl (.inr ⟨o, e _ _ h⟩)
  · exact .inr h
theorem same_new {H : Hp} {p : Addr} (h : H p = none) (o : HO) : Same H (upd H p o) := fun b u q => by rw [upd_ne (ne_of_none q h)]; exact q
theorem cbig {i j : Int} {m n : Nat} (h1 : i.natAbs < 2 ^ m) (h2 : j.natAbs < 2 ^ n) (hm : m ≤ 1000000 := by decide) (hn : n ≤ 1000000 := by decide) : CBig i j :=
  ⟨Nat.lt_of_lt_of_le h1 (Nat.pow_le_pow_right (by decide) hm), Nat.lt_of_lt_of_le h2 (Nat.pow_le_pow_right (by decide) hn)⟩
theorem cdivb {i j : Int} {n : Nat} (h0 : j ≠ 0) (h : j.natAbs < 2 ^ n) (hn : n ≤ 8999 := by decide) : CDivB i j := ⟨h0, Nat.lt_of_lt_of_le h (Nat.pow_le_pow_right (by decide) hn)⟩
def getI (σ : St) (i : Nat) : Int := match σ[i]? with
  | some (some (.int x)) => x
  | _ => 0
theorem sz0 : (0 ≤ sizeLine) = True := eq_true (by decide)
theorem sz1 : (1 ≤ sizeLine) = True := eq_true (by decide)
theorem sz2 : (2 ≤ sizeLine) = True := eq_true (by decide)
theorem sz3 : (3 ≤ sizeLine) = True := eq_true (by decide)
theorem sz4 : (4 ≤ sizeLine) = True := eq_true (by decide)
def NS (e : Expr) : Prop := ∀ es env, starEach (e :: es) env = (false, eval e env) :: starEach es env
theorem ns_Constant {a b c} : NS (Expr.Constant a b c) := fun _ _ => rfl
theorem ns_Name {a b} : NS (Expr.Name a b) := fun _ _ => rfl
theorem ns_Call {a b c d} : NS (Expr.Call a b c d) := fun _ _ => rfl
theorem ns_BinOp {a b c d} : NS (Expr.BinOp a b c d) := fun _ _ => rfl
theorem ns_UnaryOp {a b c} : NS (Expr.UnaryOp a b c) := fun _ _ => rfl
theorem ns_Tuple {a b c} : NS (Expr.Tuple a b c) := fun _ _ => rfl
theorem ns_List {a b} : NS (Expr.List a b) := fun _ _ => rfl
theorem ns_Subscript {a b c} : NS (Expr.Subscript a b c) := fun _ _ => rfl
theorem ns_Compare {a b c d} : NS (Expr.Compare a b c d) := fun _ _ => rfl
theorem ns_ListComp {a b c d} : NS (Expr.ListComp a b c d) := fun _ _ => rfl
section
variable {X : Cx}
theorem pa1 {e1 : Expr} {t1 : TE} (h1 : PE X e1 t1) (n1 : NS e1) : PA X [e1] (tCons t1 tNil) := (pa_cons h1 pa_nil (n1 _ _))
theorem pa2 {e1 e2 : Expr} {t1 t2 : TE} (h1 : PE X e1 t1) (n1 : NS e1) (h2 : PE X e2 t2) (n2 : NS e2) : PA X [e1, e2] (tCons t1 (tCons t2 tNil)) := (pa_cons h1 (pa_cons h2 pa_nil (n2 _ _)) (n1 _ _))
theorem pa3 {e1 e2 e3 : Expr} {t1 t2 t3 : TE} (h1 : PE X e1 t1) (n1 : NS e1) (h2 : PE X e2 t2) (n2 : NS e2) (h3 : PE X e3 t3) (n3 : NS e3) : PA X [e1, e2, e3] (tCons t1 (tCons t2 (tCons t3 tNil))) := (pa_cons h1 (pa_cons h2 (pa_cons h3 pa_nil (n3 _ _)) (n2 _ _)) (n1 _ _))
theorem pa4 {e1 e2 e3 e4 : Expr} {t1 t2 t3 t4 : TE} (h1 : PE X e1 t1) (n1 : NS e1) (h2 : PE X e2 t2) (n2 : NS e2) (h3 : PE X e3 t3) (n3 : NS e3) (h4 : PE X e4 t4) (n4 : NS e4) : PA X [e1, e2, e3, e4] (tCons t1 (tCons t2 (tCons t3 (tCons t4 tNil)))) := (pa_cons h1 (pa_cons h2 (pa_cons h3 (pa_cons h4 pa_nil (n4 _ _)) (n3 _ _)) (n2 _ _)) (n1 _ _))
theorem pa5 {e1 e2 e3 e4 e5 : Expr} {t1 t2 t3 t4 t5 : TE} (h1 : PE X e1 t1) (n1 : NS e1) (h2 : PE X e2 t2) (n2 : NS e2) (h3 : PE X e3 t3) (n3 : NS e3) (h4 : PE X e4 t4) (n4 : NS e4) (h5 : PE X e5 t5) (n5 : NS e5) : PA X [e1, e2, e3, e4, e5] (tCons t1 (tCons t2 (tCons t3 (tCons t4 (tCons t5 tNil))))) := (pa_cons h1 (pa_cons h2 (pa_cons h3 (pa_cons h4 (pa_cons h5 pa_nil (n5 _ _)) (n4 _ _)) (n3 _ _)) (n2 _ _)) (n1 _ _))
theorem pss2 {e1 e2 : Stmt} {t1 t2 : TS} (h1 : PS X e1 t1) (h2 : PS X e2 t2) : PSs X [e1, e2] (tSeq t1 t2) := (pss_cons h1 (pss_one h2))
theorem pss3 {e1 e2 e3 : Stmt} {t1 t2 t3 : TS} (h1 : PS X e1 t1) (h2 : PS X e2 t2) (h3 : PS X e3 t3) : PSs X [e1, e2, e3] (tSeq t1 (tSeq t2 t3)) := (pss_cons h1 (pss_cons h2 (pss_one h3)))
theorem pss4 {e1 e2 e3 e4 : Stmt} {t1 t2 t3 t4 : TS} (h1 : PS X e1 t1) (h2 : PS X e2 t2) (h3 : PS X e3 t3) (h4 : PS X e4 t4) : PSs X [e1, e2, e3, e4] (tSeq t1 (tSeq t2 (tSeq t3 t4))) := (pss_cons h1 (pss_cons h2 (pss_cons h3 (pss_one h4))))
theorem pss5 {e1 e2 e3 e4 e5 : Stmt} {t1 t2 t3 t4 t5 : TS} (h1 : PS X e1 t1) (h2 : PS X e2 t2) (h3 : PS X e3 t3) (h4 : PS X e4 t4) (h5 : PS X e5 t5) : PSs X [e1, e2, e3, e4, e5] (tSeq t1 (tSeq t2 (tSeq t3 (tSeq t4 t5)))) := (pss_cons h1 (pss_cons h2 (pss_cons h3 (pss_cons h4 (pss_one h5)))))
theorem pss6 {e1 e2 e3 e4 e5 e6 : Stmt} {t1 t2 t3 t4 t5 t6 : TS} (h1 : PS X e1 t1) (h2 : PS X e2 t2) (h3 : PS X e3 t3) (h4 : PS X e4 t4) (h5 : PS X e5 t5) (h6 : PS X e6 t6) : PSs X [e1, e2, e3, e4, e5, e6] (tSeq t1 (tSeq t2 (tSeq t3 (tSeq t4 (tSeq t5 t6))))) := (pss_cons h1 (pss_cons h2 (pss_cons h3 (pss_cons h4 (pss_cons h5 (pss_one h6))))))
theorem pss13 {e1 e2 e3 e4 e5 e6 e7 e8 e9 e10 e11 e12 e13 : Stmt} {t1 t2 t3 t4 t5 t6 t7 t8 t9 t10 t11 t12 t13 : TS} (h1 : PS X e1 t1) (h2 : PS X e2 t2) (h3 : PS X e3 t3) (h4 : PS X e4 t4) (h5 : PS X e5 t5) (h6 : PS X e6 t6) (h7 : PS X e7 t7) (h8 : PS X e8 t8) (h9 : PS X e9 t9) (h10 : PS X e10 t10) (h11 : PS X e11 t11) (h12 : PS X e12 t12) (h13 : PS X e13 t13) : PSs X [e1, e2, e3, e4, e5, e6, e7, e8, e9, e10, e11, e12, e13] (tSeq t1 (tSeq t2 (tSeq t3 (tSeq t4 (tSeq t5 (tSeq t6 (tSeq t7 (tSeq t8 (tSeq t9 (tSeq t10 (tSeq t11 (tSeq t12 t13)))))))))))) := (pss_cons h1 (pss_cons h2 (pss_cons h3 (pss_cons h4 (pss_cons h5 (pss_cons h6 (pss_cons h7 (pss_cons h8 (pss_cons h9 (pss_cons h10 (pss_cons h11 (pss_cons h12 (pss_one h13)))))))))))))
end
end L2
set_option Elab.async false
set_option linter.all false
set_option maxRecDepth 100000
set_option maxHeartbeats 4000000
namespace L2
open PySem PySem.Spec PyProof.Rows
section
variable {X : Cx} {pins : List (Addr × Obj)} {σ : St} {H : Hp} {s : Shared} {h' : Heap}
end
section
variable {X : Cx}
end
end L2
set_option Elab.async false
set_option linter.all false
set_option maxRecDepth 100000
set_option maxHeartbeats 4000000
namespace L2
open PySem PySem.Spec PyProof.Rows
section
variable {P : Program} {w : World} {H : Hp} {h : Heap} {a : Addr} {o : HO}
theorem ObjOk.there (x : ObjOk P w H h a o) : ∃ u, h.get? a = some u := by
  cases o with
  | lst xs => obtain ⟨_, _, _, _, e⟩ := x; exact ⟨_, e⟩
  | tup xs => obtain ⟨_, _, _, o, e, _⟩ := x; exact ⟨o, e⟩
  | dK kvs => obtain ⟨_, _, _, _, o, _, _, e, _⟩ := x; exact ⟨o, e⟩
  | dT kvs => obtain ⟨_, _, _, _, o, _, _, e, _⟩ := x; exact ⟨o, e⟩
  | set S n => obtain ⟨o, _, _, _, e, _⟩ := x; exact ⟨o, e⟩
  | ins C dx fs => obtain ⟨_, _, _, e, _⟩ := x; exact ⟨_, e⟩
  | own y => exact x
  | xd fs => obtain ⟨_, ⟨o, _, _, e, _⟩, _⟩ := x; exact ⟨o, e⟩
  | rng lo hi => obtain ⟨_, _, _, e⟩ := x; exact ⟨_, e⟩
  | frz ob u => exact ⟨ob, x.1⟩
  | tbl ps => exact ⟨_, x⟩
  | met f y => exact ⟨_, x⟩
  | ext φ => exact x.2.1
end
section
variable {P : Program} {w : World} {K : PySem.W.Frag} {mg : Str → Option Value} {base : Heap} {N : List Str} {qual : Str} {scope : Scope} {f : Addr} {cd : Value} {A : Around} {outer : List Env} {s₀ : Shared} {H₀ : Hp} {E : XK}
end
section
variable {K : PySem.W.Frag} {h : Heap} {C : Addr} {bmB : List Value} {newId : String}
end
section
variable {X : Cx} {C : Addr} {E : XK} {x : Str} {np cpos pos : Pos} {e : Expr} {es : List Expr} {ta : TA}
end
end L2
set_option Elab.async false
set_option linter.all false
set_option maxRecDepth 100000
set_option maxHeartbeats 4000000
namespace L2
open PySem PySem.Spec PyProof.Rows
structure XI (K : PySem.W.Frag) (D : Addr) : Prop where
  ga : PySem.W.findIn K (.ref D) "__getattribute__" = some (some (.builtin "BaseException.__getattribute__"))
  gn : PySem.W.findIn K (.ref D) "__getattr__" = some none
  cl : PySem.W.findIn K (.ref D) "__class__" = some (some (.builtin "object.__class__"))
  get : PySem.W.specialIn K (.builtin "object.__class__") "__get__" = some (some (.builtin "getset_descriptor.__get__"))
  tk : PySem.W.takesIn K (.builtin "object.__class__") = some true
  ob : PySem.W.mroIn K D (.type "object") = some true
  be : PySem.W.mroIn K D (.type "BaseException") = some true
theorem XI.cls {K : PySem.W.Frag} {D : Addr} (F : XI K D) : (PySem.W.clsIn K D).isSome = true := by
  have z := F.ob
  unfold PySem.W.mroIn at z
  cases q : PySem.W.clsIn K D with
  | none => rw [q] at z; cases z
  | some cd => rfl
def XAt (a D : Addr) (h : Heap) : Prop := ∃ o vs, h.get? a = some o ∧ o.cls = .ref D ∧ o.data = .fields vs
section
variable {prog : Program} {w : World} {A : Around} {E : Value → Shared → Prop} {s : Shared} {K : PySem.W.Frag} {a D : Addr}
theorem XAt.ty {M : Model} {h : Heap} (x : XAt a D h) : PySem.W.Looks M h (typeOf (.ref a)) (.ref D) := by
  obtain ⟨o, vs, e, c, _⟩ := x
  exact c ▸ (PySem.W.Looks.ld e).andThen .now
end
section
variable {X : Cx} {c : Value} {cv : V}
end
section
variable {X : Cx} {pins pins1 pn : List (Addr × Obj)} {σ : St} {H : Hp} {s : Shared} {W : Value → Shared → Prop} {ea : Addr}
end
section
variable {X : Cx} {body suite : List Stmt} {b₀ : Stmt} {x nm : Str} {np hpos pos : Pos} {i : Nat} {C : Addr} {tb : XK → TS} {th : TS}
end
end L2
set_option Elab.async false
set_option linter.all false
set_option maxRecDepth 100000
set_option maxHeartbeats 4000000
namespace L2
open PySem PySem.Spec PyProof.Rows
theorem forIn_steps {α β : Type} (g : α → β → β) {f : α → β → Sem (ForInStep β)} : ∀ {l : List α} (c : β), (∀ x ∈ l, ∀ c, f x c = pure (.yield (g x c))) → forIn l c f = pure (l.foldl (fun c x => g x c) c)
  | [], c, _ => rfl
  | x :: l, c, h => by
    have hx := h x List.mem_cons_self c
    rw [List.forIn_cons, hx, pure_bind]
    exact forIn_steps g (g x c) fun y hy => h y (List.mem_cons_of_mem _ hy)
def addCell (env : Env) (x : Str × NameKind) (c : List (Str × Addr)) : List (Str × Addr) :=
  if x.2 == NameKind.free then (match env.cells.lookup x.1 with | some a => (x.1, a) :: c | none => c) else c
theorem addCells_sub {env : Env} : ∀ (l : List (Str × NameKind)) (acc : List (Str × Addr)), (∀ n c, acc.lookup n = some c → env.cells.lookup n = some c) →
    ∀ n c, (l.foldl (fun c x => addCell env x c) acc).lookup n = some c → env.cells.lookup n = some c
  | [], acc, h, n, c, e => h n c e
  | x :: l, acc, h, n, c, e => by
    refine addCells_sub l (addCell env x acc) (fun n c e => ?_) n c e
    unfold addCell at e
    split at e
    · split at e
      · rename_i a ha
        rw [List.lookup_cons] at e
        split at e
        · rename_i hb
          have hn : n = x.1 := by simpa using hb
          cases e
          rw [hn]; exact ha
        · exact h n c e
      · exact h n c e
    · exact h n c e
theorem addCells_has {env : Env} : ∀ (l : List (Str × NameKind)) (acc : List (Str × Addr)) (n : Str), ((∃ c, acc.lookup n = some c) ∨ ((n, NameKind.free) ∈ l ∧ ∃ c, env.cells.lookup n = some c)) →
    ∃ c, (l.foldl (fun c x => addCell env x c) acc).lookup n = some c
  | [], acc, n, h => by
    rcases h with h | ⟨h, _⟩
    · exact h
    · cases h
  | x :: l, acc, n, h => by
    refine addCells_has l (addCell env x acc) n ?_
    rcases h with ⟨c, h⟩ | ⟨h, c, hc⟩
    · left
      unfold addCell
      split
      · split
        · rw [List.lookup_cons]
          split
          · exact ⟨_, rfl⟩
          · exact ⟨c, h⟩
        · exact ⟨c, h⟩
      · exact ⟨c, h⟩
    · rcases List.mem_cons.mp h with e | h
      · left
        subst e
        unfold addCell
        have ef : (NameKind.free == NameKind.free) = true := rfl
        have en : (n == n) = true := by simp
        simp only [ef, if_true, hc, List.lookup_cons, en]
        exact ⟨c, rfl⟩
      · exact .inr ⟨h, c, hc⟩
theorem closure_of {scope : Scope} {env : Env} (hf : ∀ n, (n, NameKind.free) ∈ scope.names → ∃ c, env.cells.lookup n = some c) :
    ∃ cl, closureFor scope env = pure cl ∧ (∀ n c, cl.lookup n = some c → env.cells.lookup n = some c) ∧ ∀ n, (n, NameKind.free) ∈ scope.names → ∃ c, cl.lookup n = some c := by
  refine ⟨scope.names.foldl (fun c x => addCell env x c) [], ?_, addCells_sub _ _ (fun n c e => by simp at e), fun n h => addCells_has _ _ n (.inr ⟨h, hf n h⟩)⟩
  simp only [closureFor]
  rw [forIn_steps (addCell env) [] (fun x hx c => ?_)]
  · rfl
  · obtain ⟨n, kind⟩ := x
    by_cases hk : kind = .free
    · subst hk
      obtain ⟨a, ha⟩ := hf n hx
      have ef : (NameKind.free == NameKind.free) = true := rfl
      simp [cellOf, ha, addCell, ef]
    · have e : (kind == NameKind.free) = false := by simpa using hk
      simp [e, addCell]
theorem relabel_lookup (env : Env) (x : Str) : ∀ names : List (Str × NameKind),
    (names.map fun (n, k) => if (k == NameKind.free && env.scope.kind == .function && env.kindOf n == some .cell) then (n, NameKind.cell) else (n, k)).lookup x =
    (names.lookup x).map fun k => if (k == NameKind.free && env.scope.kind == .function && env.kindOf x == some .cell) then NameKind.cell else k
  | [] => rfl
  | (n, k) :: r => by
    have ih := relabel_lookup env x r
    rw [List.map_cons]
    by_cases e : x = n
    · subst e
      have ex : (x == x) = true := by simp
      by_cases c : (k == NameKind.free && env.scope.kind == .function && env.kindOf x == some .cell) = true
      · dsimp only
        rw [if_pos c, List.lookup_cons, ex, List.lookup_cons, ex]
        exact congrArg some (if_pos c).symm
      · dsimp only
        rw [if_neg c, List.lookup_cons, ex, List.lookup_cons, ex]
        exact congrArg some (if_neg c).symm
    · have e' : (x == n) = false := by simpa using e
      by_cases c : (k == NameKind.free && env.scope.kind == .function && env.kindOf n == some .cell) = true
      · dsimp only
        rw [if_pos c, List.lookup_cons, e', List.lookup_cons, e']
        exact ih
      · dsimp only
        rw [if_neg c, List.lookup_cons, e', List.lookup_cons, e']
        exact ih
structure CompScope (dsc : Scope) (N : List Str) (scope : Scope) (own : List Str) (ix : List Nat) : Prop where
  kind : scope.kind = .function
  nocell : ∀ y ∈ scope.names, y.2 ≠ NameKind.cell
  names : ∀ y ∈ scope.names, y.2 = NameKind.local → scope.names.lookup y.1 = some .local
  free : ∀ y ∈ scope.names, y.2 = NameKind.free → dsc.names.lookup y.1 = some .cell ∨ dsc.names.lookup y.1 = some .free
  ix : ∀ i ∈ ix, i < N.length ∧ scope.names.lookup (N.getD i "") = some .free
def Cx.comp (X : Cx) (scope : Scope) (own : List Str) (ix : List Nat) (cl : List (Str × Addr)) (C : Addr) (fp : List Addr) (s : Shared) (H : Hp) (xe : Value → Shared → Prop) : Cx :=
  { X with N := own ++ ix.map (fun i => X.N.getD i ""), s₀ := s, H₀ := H, env := compEnvC scope cl C X.env, outer := X.stack, ex := fp, fn := fun _ => false, pn := [], xe := xe }
theorem comp_K {X : Cx} {scope : Scope} {own : List Str} {ix : List Nat} {cl : List (Str × Addr)} {C : Addr} {fp : List Addr} {s : Shared} {H : Hp} {xe : Value → Shared → Prop} : (X.comp scope own ix cl C fp s H xe).K = X.K := rfl
def selC (k : Nat) (ix : List Nat) (σ : St) : St := List.replicate k none ++ ix.map (fun i => (σ[i]?).join)
section
variable {X : Cx} {pins : List (Addr × Obj)} {σ : St} {H H4 : Hp} {s s4 : Shared} {dsc scope : Scope} {own : List Str} {ix : List Nat} {cl : List (Str × Addr)} {C : Addr} {fp : List Addr} {xe : Value → Shared → Prop}
theorem comp_fp (I : Inv X pins σ H s) (hf : ∀ b ∈ fp, FpOk X pins H b) {b : Addr} (hb : b ∈ fp) : b ∉ frs X.stack := fun hs => by
  obtain ⟨_, f1, f2, _⟩ := hf b hb
  rcases List.mem_cons.mp (I.stkSub b hs) with e | e
  · exact f1 e
  · exact f2 e
theorem Inv.comp (I : Inv X pins σ H s) (hd : X.env.scope = dsc) (S : CompScope dsc X.N scope own ix) (cs : ∀ n c, cl.lookup n = some c → X.env.cells.lookup n = some c) (ch : ∀ n, (n, NameKind.free) ∈ scope.names → ∃ c, cl.lookup n = some c)
    (hf : ∀ b ∈ fp, FpOk X pins H b) (ho : ∀ b ∈ fp, ∃ o, s.heap.get? b = some o) (I4 : Inv X pins σ H4 s4) (un : Un (frs X.stack) fp H H4 s.heap s4.heap) (hC : s.heap.objs.size ≤ C) (hn : ∃ m, s4.heap.Ns C m) (hC0 : H4 C = none) :
    Inv (X.comp scope own ix cl C fp s H xe) [] (selC own.length ix σ) H4 s4 := by
  have kfree : ∀ x, scope.names.lookup x = some .free → (compEnvC scope cl C X.env).kindOf x = some .cell ∨ (compEnvC scope cl C X.env).kindOf x = some .free := fun x h => by
    have e : (compEnvC scope cl C X.env).kindOf x = _ := relabel_lookup X.env x scope.names
    rw [e, h, Option.map_some]
    split
    · exact .inl rfl
    · exact .inr rfl
  have kback : ∀ x, ((compEnvC scope cl C X.env).kindOf x = some .cell ∨ (compEnvC scope cl C X.env).kindOf x = some .free) → scope.names.lookup x = some .free := fun x h => by
    have e : (compEnvC scope cl C X.env).kindOf x = _ := relabel_lookup X.env x scope.names
    rw [e] at h
    cases q : scope.names.lookup x with
    | none => rw [q] at h; rcases h with h | h <;> cases h
    | some k =>
      have nc := S.nocell _ (PySem.mem_of_lookup q)
      rw [q, Option.map_some] at h
      cases k <;> first | rfl | exact absurd rfl nc | (rcases h with h | h <;> cases h)
  refine ⟨⟨I.ok.mod, S.kind, I.ok.glob, I.ok.blt, hC, fun x y c h1 h2 => I.ok.inj x y c (cs x c h1) (cs y c h2), fun x hx => ch x (PySem.mem_of_lookup (kback x hx)), fun x c h => (nomatch h), I.ok.hd, I.ok.frames, .inl rfl, fun b hb => ⟨fun z => ?_, fun x c e => (hf b hb).2.2.2.2.1 x c (cs x c e)⟩,
    I.bs, Nat.le_trans I.ok.bsz I.sz, fun b o e hb => ?_, fun b hb => comp_fp I hf hb, I.stack, I.stkFree⟩, I4.os.trans I.os.symm, I4.bare, un, ?_, fun x c e => I4.cell x c (cs x c e), hC0, fun x c e => I4.freeC x c (cs x c e), fun p hp => (nomatch hp), I4.hok, ?_⟩
  · obtain ⟨o, e⟩ := ho b hb
    have z' : b = C := z
    exact absurd (Nat.lt_of_lt_of_le (Heap.lt_size e) (by rw [z']; exact hC)) (Nat.lt_irrefl _)
  · rcases (hf b hb).2.2.2.1 with z | z
    · exact I.ok.noex b o e z
    · exact absurd (Nat.lt_of_lt_of_le (Heap.lt_size e) (Nat.le_trans I.ok.bsz z)) (Nat.lt_irrefl _)
  · obtain ⟨m, hm⟩ := hn
    refine ⟨m, hm, fun i x v e1 e2 _ => ?_⟩
    have e1' : (own ++ ix.map (fun i => X.N.getD i ""))[i]? = some x := e1
    unfold selC at e2
    by_cases hi : i < own.length
    · rw [List.getElem?_append_left (by rw [List.length_replicate]; exact hi), List.getElem?_replicate, if_pos hi] at e2
      cases e2
    · rw [List.getElem?_append_right (by rw [List.length_replicate]; omega), List.length_replicate, List.getElem?_map] at e2
      rw [List.getElem?_append_right (by omega), List.getElem?_map] at e1'
      cases q : ix[i - own.length]? with
      | none => rw [q] at e2; cases e2
      | some j =>
        rw [q] at e1' e2
        rw [Option.map_some, Option.some.injEq] at e1' e2
        obtain ⟨hj, hfr⟩ := S.ix j (List.mem_of_getElem? q)
        rw [e1'] at hfr
        have eN : X.N[j]? = some x := by
          rw [List.getElem?_eq_getElem hj, ← e1', List.getD_eq_getElem?_getD, List.getElem?_eq_getElem hj]; rfl
        have es : σ[j]? = some (some v) := by
          cases w : σ[j]? with
          | none => rw [w] at e2; cases e2
          | some o => rw [w] at e2; exact congrArg some e2
        have kd := S.free _ (PySem.mem_of_lookup hfr) rfl
        rw [← hd] at kd
        obtain ⟨m4, hm4, hl⟩ := I4.loc
        obtain ⟨u, r, l⟩ := hl j x v eN es (.inr kd)
        refine ⟨u, r, .inr ⟨kfree x hfr, ?_⟩⟩
        rcases l with ⟨k, _⟩ | ⟨_, c, ec, cell⟩
        · have k' : X.env.scope.names.lookup x = some .local := k
          rcases kd with z | z <;> (rw [k'] at z; cases z)
        · obtain ⟨c', ec'⟩ := ch x (PySem.mem_of_lookup hfr)
          have z := cs x c' ec'
          rw [ec] at z
          cases z
          exact ⟨c, ec', cell⟩
  · show (selC own.length ix σ).length = (own ++ ix.map (fun i => X.N.getD i "")).length
    unfold selC
    rw [List.length_append, List.length_append, List.length_replicate, List.length_map, List.length_map]
theorem Inv.outOf {pins' : List (Addr × Obj)} {σ' : St} {H' : Hp} {s' : Shared} (I : Inv X pins σ H s) (hf : ∀ b ∈ fp, FpOk X pins H b) (J : Inv (X.comp scope own ix cl C fp s H xe) pins' σ' H' s') : Inv X pins σ H' s' :=
  I.call' J.os J.base J.hok J.bare fun b hb => by
    obtain ⟨_, f1, _, f3, f4, f5⟩ := hf b hb
    exact ⟨f3, f1, f4, f5⟩
end
abbrev testsOf (ifs : List Expr) (env : Env) : Sem Bool := forIn ifs true fun c r => if r = true then do let ok ← isTrue c env (eval c env); pure (ForInStep.yield ok) else pure (ForInStep.yield r)
def PIf (X : Cx) (ifs : List Expr) (t : TT) : Prop :=
  ∀ (pins : List (Addr × Obj)) (s : Shared) (σ : St) (H : Hp) (Q : Bool → Hp → Prop), Inv X pins σ H s → t σ H Q → wpAny (model X.prog X.w) X.A (testsOf ifs X.env) (TP X pins σ Q) X.xe s
def tYes : TT := fun _ H Q => Q true H
theorem pif_nil {X : Cx} : PIf X [] tYes := fun _ _ _ H _ I h => wpAny_tests_nil ⟨H, I, h⟩
section
variable {prog : Program} {w : World} {A : Around} {R : Result → Shared → Prop} {s : Shared}
abbrev nb (prog : Program) (w : World) (A : Around) (env : Env) (R : Result → Shared → Prop) : Value → Shared → Prop := notedBy (model prog w) A env fun e s' => R (.error e) s'
theorem comp_loop {elt target iter : Expr} {ifs : List Expr} {scope : Scope} {pos : Pos} {it acc : Value} {env : Env} (I : Nat → Shared → Prop)
    (turn : ∀ n s, I n s → wpAny (model prog w) A (pyNext it) (fun r s₁ => (r = none ∧ R (.ok .next) s₁) ∨ ∃ v, r = some v ∧
      wpAny (model prog w) A (letOwnedTupleGo target it v) (fun _ s₂ => wpAny (model prog w) A (assign target env v) (fun _ s₃ => wpAny (model prog w) A (testsOf ifs env) (fun ok s₄ =>
        if ok = true then wpAny (model prog w) A (eval elt env) (fun x s₅ => wpAny (model prog w) A (call (.builtin "list.append") [acc, x]) (fun _ s₆ => ∃ m, m < n ∧ I m s₆) (nb prog w A env R) s₅) (nb prog w A env R) s₄
        else ∃ m, m < n ∧ I m s₄) (nb prog w A env R) s₃) (nb prog w A env R) s₂) (nb prog w A env R) s₁) (nb prog w A env R) s)
    (n : Nat) (h : I n s) : codeAny (model prog w) A (.compLoop (.ListComp elt [⟨target, iter, ifs, 0⟩] scope pos) 0 it acc env) R s := by
  refine codeAny_loop rfl I (fun n s hI => ?_) n h
  refine wpAny_noted ?_
  have e := compTurn_list elt target iter ifs scope pos it acc env
  show wpAny (model prog w) A (compTurn (.ListComp elt [⟨target, iter, ifs, 0⟩] scope pos) 0 it acc env) _ _ s
  rw [e]
  refine wpAny_bind (wpAny_standAt (wpAny_bind (thn (turn n s hI) fun r s₁ h₁ => ?_)))
  rcases h₁ with ⟨rfl, h₁⟩ | ⟨v, rfl, h₁⟩
  · exact wpAny_pure h₁
  · refine wpAny_bind (thn h₁ fun _ s₂ h₂ => wpAny_bind (thn h₂ fun _ s₃ h₃ => wpAny_bind (thn h₃ fun ok s₄ h₄ => ?_)))
    cases ok with
    | false => exact wpAny_pure ⟨rfl, h₄⟩
    | true =>
      refine wpAny_bind (wpAny_bind (thn h₄ fun x s₅ h₅ => wpAny_bind (thn h₅ fun _ s₆ h₆ => ?_)))
      exact wpAny_pure (wpAny_pure ⟨rfl, h₆⟩)
end
def tComp (k : Nat) (ix : List Nat) (wi : TI) (g : TG) (ti : TT) (te : TE) : TE := fun σ H Q => wi σ H fun J H1 => ∀ D, H1 D = none → ∃ W : Nat → Nat → Hp → Prop, (∃ m, W 0 m (upd H1 D (.lst []))) ∧ ∀ i m H2, W i m H2 →
  (J.stop i H2 ∧ Q (.ref D) H2) ∨ (J.go i H2 ∧ ∀ x H3, J.yld i H2 x H3 → g x (selC k ix σ) H3 fun σ4 H4 => ti σ4 H4 fun b H5 => if b = true then te σ4 H5 fun y H6 => ∃ ys, H6 D = some (.lst ys) ∧ ys.length < sizeLine ∧ ∃ m', m' < m ∧ W (i + 1) m' (upd H6 D (.lst (ys ++ [y])))
    else ∃ m', m' < m ∧ W (i + 1) m' H5)
section
variable {X : Cx} {pins : List (Addr × Obj)} {σ : St} {H : Hp} {s : Shared} {dsc scope : Scope} {own : List Str} {ix : List Nat} {elt tg iter : Expr} {ifs : List Expr} {pos : Pos} {wi : TI} {g : TG} {ti : TT} {te : TE}
def CompBody (X : Cx) (scope : Scope) (own : List Str) (ix : List Nat) (tg : Expr) (ifs : List Expr) (elt : Expr) (g : TG) (ti : TT) (te : TE) : Prop :=
  ∀ cl C fp s H xe, PG (X.comp scope own ix cl C fp s H xe) tg g ∧ PIf (X.comp scope own ix cl C fp s H xe) ifs ti ∧ PE (X.comp scope own ix cl C fp s H xe) elt te
theorem comp_run {use : Option (Value → Sem Unit)} {RQ : Value → Shared → Prop} {Q : VK} {p0 : Pos} (hc : X.calm = true) (hd : X.env.scope = dsc) (S : CompScope dsc X.N scope own ix) (hi : PI X tg iter wi) (hb : CompBody X scope own ix tg ifs elt g ti te)
    (hs : ∀ x, foldedSetIterable iter X.env x = pure x) (I : Inv X pins σ H s) (h : tComp own.length ix wi g ti te σ H Q)
    (fin : ∀ D C H' s', Inv X pins σ H' s' → FpOk X pins H' C → (∃ m, s'.heap.Ns C m) → Q (.ref D) H' → compPost (model X.prog X.w) X.A X.xe use RQ (.ref D) C (.ok .next) s') :
    wpAny (model X.prog X.w) X.A (comprehension (.ListComp elt [⟨tg, iter, ifs, 0⟩] scope pos) scope X.env p0 (newList []) false (eval iter X.env) use) RQ X.xe s := by
  obtain ⟨cl, hcl, cs, ch⟩ := closure_of (scope := scope) (env := X.env) fun n hn => I.ok.has n (by
    have z := S.free _ hn rfl
    rw [← hd] at z
    exact z)
  refine wpAny_comprehension_free rfl hs hcl S.kind S.names (thn (hi pins s σ H _ I h) fun v s1 h1 => thn h1 fun itv s2 h2 => ?_)
  obtain ⟨it, fp, tn, J, H2, e, I2, T, st2, f2, W⟩ := h2
  subst e
  have hD0 : H2 s2.heap.objs.size = none := I2.fresh
  obtain ⟨W, ⟨m0, w0⟩, turn⟩ := W _ hD0
  have I3 := I2.lnew (ys := []) (its := []) (t' := s2.toks) .nil (Nat.zero_le _)
  refine wpAny_newObj_type (wpAny_newFunctionEnv S.nocell (by intro y hy; cases hy) (fun h₁ hns₁ hsb₁ => ?_) S.kind)
  dsimp only at hns₁ hsb₁ ⊢
  generalize hH3 : s2.heap.push { cls := .type "list", dict := none, data := .seq ([] : List Value).toArray } = g3 at hns₁ hsb₁ ⊢
  have hC : g3.objs.size = s2.heap.objs.size + 1 := by rw [← hH3, Heap.size_push]
  have old3 : ∀ b o, g3.get? b = some o → h₁.get? b = some o := fun b o e => hsb₁.extBut b o (Nat.ne_of_lt (Heap.lt_size e)) (Heap.get?_push_of_some _ e)
  have old : ∀ b o, s2.heap.get? b = some o → h₁.get? b = some o := fun b o e => old3 b o (by rw [← hH3]; exact Heap.get?_push_of_some _ e)
  have I4 : Inv X pins σ (upd H2 s2.heap.objs.size (.lst [])) { s2 with heap := h₁, toks := s2.toks + 0 } := I3.kept (t' := s2.toks + 0) fun b o e => old3 b o (by rw [← hH3]; exact e)
  have fpo : ∀ b ∈ fp, ∃ o, s2.heap.get? b = some o := fun b hb => let ⟨o, e, _⟩ := T.obj _ _ st2 b hb; ⟨o, e⟩
  have hC0 : upd H2 s2.heap.objs.size (.lst []) g3.objs.size = none := by
    rw [upd_ne (by rw [hC]; exact Nat.succ_ne_self _)]
    exact I2.hok.fresh (by rw [hC]; exact Nat.le_succ _)
  have hCs : s2.heap.objs.size ≤ g3.objs.size := by rw [hC]; exact Nat.le_succ _
  -- the block's context, and how one comes into it again
  have into : ∀ {H' : Hp} {s' : Shared} {xe : Value → Shared → Prop}, Inv X pins σ H' s' → Un (frs X.stack) fp H2 H' s2.heap s'.heap → (∃ m, s'.heap.Ns g3.objs.size m) → H' g3.objs.size = none → Inv (X.comp scope own ix cl g3.objs.size fp s2 H2 xe) [] (selC own.length ix σ) H' s' :=
    fun I' un hn h0 => I2.comp hd S cs ch f2 fpo I' un hCs hn h0
  have stat : ∀ {H' : Hp} {xe : Value → Shared → Prop} {σ' : St} {s' : Shared}, Inv (X.comp scope own ix cl g3.objs.size fp s2 H2 xe) [] σ' H' s' → (∀ b ∈ fp, H' b = none) → ∀ b ∈ fp, FpOk (X.comp scope own ix cl g3.objs.size fp s2 H2 xe) [] H' b := fun {H' xe σ' s'} K hn b hb =>
    ⟨hn b hb, (K.ok.exf b hb).1, K.ok.exfs b hb, .inl hb, (K.ok.exf b hb).2, fun p hp => nomatch hp⟩
  have loop : ∀ s₃ : Shared, s₃ = { s2 with heap := h₁, toks := s2.toks + 0 } →
      codeAny (model X.prog X.w) X.A (.compLoop (.ListComp elt [⟨tg, iter, ifs, 0⟩] scope pos) 0 (.ref it) (.ref s2.heap.objs.size) (compEnvC scope cl g3.objs.size X.env)) (compPost (model X.prog X.w) X.A X.xe use RQ (.ref s2.heap.objs.size) g3.objs.size) s₃ := by
    rintro s₃ rfl
    generalize hxe : nb X.prog X.w X.A (compEnvC scope cl g3.objs.size X.env) (compPost (model X.prog X.w) X.A X.xe use RQ (.ref s2.heap.objs.size) g3.objs.size) = xe
    obtain ⟨hg, hif, hel⟩ := hb cl g3.objs.size fp s2 H2 xe
    refine comp_loop (fun n s' => ∃ i H', Inv (X.comp scope own ix cl g3.objs.size fp s2 H2 xe) [] (selC own.length ix σ) H' s' ∧ tn i s'.heap ∧ (∀ b ∈ fp, H' b = none) ∧ W i n H') ?_ m0
      ⟨0, _, into I4 (Un.laid old (Nat.le_refl _) hD0) ⟨_, hns₁⟩ hC0, T.keep _ _ _ st2 fun b hb o e => old b o e, fun b hb => ?_, w0⟩
    · rintro n s3 ⟨i, H3, K3, st3, fr3, w3⟩
      rw [hxe]
      rcases turn i n H3 w3 with ⟨stop, qn⟩ | ⟨go, step⟩
      · refine thn (T.done (X.comp scope own ix cl g3.objs.size fp s2 H2 xe) rfl rfl rfl hc i [] s3 _ H3 xe K3 (stat K3 fr3) st3 stop) fun r s4 ⟨hr, K4⟩ => .inl ⟨hr, ?_⟩
        obtain ⟨m, hm, _⟩ := K4.loc
        exact fin _ _ H3 s4 (I2.outOf f2 K4) (I2.fpOk hCs K4.free) ⟨m, hm⟩ qn
      · refine thn (T.item (X.comp scope own ix cl g3.objs.size fp s2 H2 xe) rfl rfl rfl hc i [] s3 _ H3 xe K3 (stat K3 fr3) st3 go) fun r s4 ⟨u, hr, h4⟩ => .inr ⟨u, hr, ?_⟩
        refine thn h4 fun _ s5 ⟨x, H5, K5, r5, y5, st5, fr5⟩ => ?_
        have K5' := K5.pinned (stat K5 fr5) (T.obj _ _ st5)
        refine thn (hg _ s5 _ H5 x u _ K5' r5 (step x H5 y5)) fun _ s6 ⟨σ6, H6, K6, q6⟩ => ?_
        refine thn (hif _ s6 σ6 H6 _ K6 q6) fun b s7 ⟨H7, K7, q7⟩ => ?_
        have again : ∀ {σ8 : St} {H8 : Hp} {s8 : Shared}, Inv (X.comp scope own ix cl g3.objs.size fp s2 H2 xe) ([] ++ pinsAt fp s5.heap) σ8 H8 s8 → (∃ m', m' < n ∧ W (i + 1) m' H8) → ∃ m, m < n ∧ ∃ i H', Inv (X.comp scope own ix cl g3.objs.size fp s2 H2 xe) [] (selC own.length ix σ) H' s8 ∧ tn i s8.heap ∧ (∀ b ∈ fp, H' b = none) ∧ W i m H' := fun {σ8 H8 s8} K8 ⟨m', hm, w8⟩ => by
          obtain ⟨m, hm8, _⟩ := K8.loc
          refine ⟨m', hm, i + 1, H8, into (I2.outOf f2 K8) K8.base ⟨m, hm8⟩ K8.free, T.keep _ _ _ st5 fun b hb o e => (K8.pin (b, o) (List.mem_append_right _ (List.mem_append_right _ (mem_pinsAt hb e)))).1, fun b hb => ?_, w8⟩
          obtain ⟨o, e, d⟩ := T.obj _ _ st5 b hb
          exact (K8.pin (b, o) (List.mem_append_right _ (List.mem_append_right _ (mem_pinsAt hb e)))).2.1
        cases b with
        | false => exact again K7 q7
        | true =>
          refine thn (hel _ s7 σ6 H7 _ K7 q7) fun v s8 ⟨y, H8, K8, r8, ys, e8, z8, q8⟩ => ?_
          refine thn (mt_append (X := X.comp scope own ix cl g3.objs.size fp s2 H2 xe) _ s8 σ6 H8 (.ref s2.heap.objs.size) [y] (.ref s2.heap.objs.size) [v] (fun _ H' => ∃ m', m' < n ∧ W (i + 1) m' H') K8 rfl (.cons r8 .nil) ⟨_, ys, y, rfl, rfl, e8, z8, q8⟩) ?_
          rintro u9 s9 ⟨v9, H9, K9, r9, q9⟩
          exact again K9 q9
    · have z := (f2 b hb).1
      obtain ⟨o, e⟩ := fpo b hb
      rw [upd_ne (Nat.ne_of_lt (Heap.lt_size e))]
      exact z
  exact codeAny_compStart_list (loop _ rfl) (T.self _ 0 _ _ _ (T.keep _ _ _ st2 fun b hb o e => old b o e) (loop _ rfl))
theorem pe_comp {N : List Str} (hc : X.calm = true) (hd : X.env.scope = dsc) (hN : X.N = N) (S' : CompScope dsc N scope own ix) (hi : PI X tg iter wi) (hb : CompBody X scope own ix tg ifs elt g ti te)
    (hs : ∀ x, foldedSetIterable iter X.env x = pure x := by intro _; rfl) : PE X (.ListComp elt [⟨tg, iter, ifs, 0⟩] scope pos) (tComp own.length ix wi g ti te) := by
  have S : CompScope dsc X.N scope own ix := by rw [hN]; exact S'
  intro pins s σ H Q I h
  rw [eval_ListComp]
  refine comp_run (use := none) hc hd S hi hb hs I h fun D C H' s' I' f' hn q => ?_
  obtain ⟨m, hm⟩ := hn
  obtain ⟨f0, f1, f2, f3, f4, f5⟩ := f'
  exact ⟨m, hm, fun h' sb => ⟨.ref D, H', I'.turned (t' := s'.toks) (fun b o hb e => (sb.2 b hb).trans e) f0 f1 f3 f4 f5, rfl, q⟩⟩
end
def CW (n : Nat) (Pv : Nat → List V → Hp → Prop) : Nat → Nat → Hp → Prop := fun i m H => m = n - i ∧ i ≤ n ∧ ∃ ys, Pv i ys H
abbrev CPut (n : Nat) (Pv : Nat → List V → Hp → Prop) (D : Addr) (i : Nat) (y : V) (H : Hp) : Prop := ∃ ys, H D = some (.lst ys) ∧ ys.length < sizeLine ∧ ∃ m', m' < n - i ∧ CW n Pv (i + 1) m' (upd H D (.lst (ys ++ [y])))
abbrev CSkip (n : Nat) (Pv : Nat → List V → Hp → Prop) (i : Nat) (H : Hp) : Prop := ∃ m', m' < n - i ∧ CW n Pv (i + 1) m' H
theorem cw_put {n i : Nat} {Pv : Nat → List V → Hp → Prop} {D : Addr} {y : V} {ys : List V} {H : Hp} (hi : i < n) (hD : H D = some (.lst ys)) (hz : ys.length < sizeLine) (p : Pv (i + 1) (ys ++ [y]) (upd H D (.lst (ys ++ [y])))) : CPut n Pv D i y H :=
  ⟨ys, hD, hz, n - (i + 1), by omega, rfl, hi, _, p⟩
def CompW (J : It) (D : Addr) (g : TG) (ti : TT) (te : TE) (σ' : St) (H : Hp) (Q : VK) : Prop :=
  ∃ W : Nat → Nat → Hp → Prop, (∃ m, W 0 m (upd H D (.lst []))) ∧ ∀ i m H2, W i m H2 →
    (J.stop i H2 ∧ Q (.ref D) H2) ∨ (J.go i H2 ∧ ∀ x H3, J.yld i H2 x H3 → g x σ' H3 fun σ4 H4 => ti σ4 H4 fun b H5 => if b = true then te σ4 H5 fun y H6 => ∃ ys, H6 D = some (.lst ys) ∧ ys.length < sizeLine ∧ ∃ m', m' < m ∧ W (i + 1) m' (upd H6 D (.lst (ys ++ [y])))
      else ∃ m', m' < m ∧ W (i + 1) m' H5)
theorem tComp_mk {k : Nat} {ix : List Nat} {wi : TI} {g : TG} {ti : TT} {te : TE} {σ : St} {H : Hp} {Q : VK} (h : wi σ H fun J H1 => ∀ D, H1 D = none → CompW J D g ti te (selC k ix σ) H1 Q) : tComp k ix wi g ti te σ H Q := h
theorem comp_by {J : It} {D : Addr} {g : TG} {ti : TT} {te : TE} {σ' : St} {H : Hp} {Q : VK} (n : Nat) (Pv : Nat → List V → Hp → Prop) (h0 : Pv 0 [] (upd H D (.lst []))) (hgo : ∀ i ys H, i < n → Pv i ys H → J.go i H) (hst : ∀ ys H, Pv n ys H → J.stop n H)
    (hs : ∀ i ys H x H3, i < n → Pv i ys H → J.yld i H x H3 → g x σ' H3 fun σ4 H4 => ti σ4 H4 fun b H5 => if b = true then te σ4 H5 fun y H6 => CPut n Pv D i y H6 else CSkip n Pv i H5)
    (hd : ∀ ys H, Pv n ys H → Q (.ref D) H) : CompW J D g ti te σ' H Q := by
  refine ⟨CW n Pv, ⟨n, rfl, Nat.zero_le _, [], h0⟩, ?_⟩
  rintro i m H2 ⟨rfl, hi, ys, p⟩
  by_cases hlt : i < n
  · exact .inr ⟨hgo i ys H2 hlt p, fun x H3 y => hs i ys H2 x H3 hlt p y⟩
  · have e : i = n := by omega
    subst e
    exact .inl ⟨hst ys H2 p, hd ys H2 p⟩
theorem comp_list {K : PySem.W.Frag} {a D : Addr} {xs : List V} {g : TG} {ti : TT} {te : TE} {σ' : St} {H : Hp} {Q : VK} (Pv : Nat → List V → Hp → Prop) (h0 : Pv 0 [] (upd H D (.lst []))) (hl : ∀ i ys H, Pv i ys H → SqL K H a xs)
    (hs : ∀ i ys H x, i < xs.length → xs[i]? = some x → Pv i ys H → g x σ' H fun σ4 H4 => ti σ4 H4 fun b H5 => if b = true then te σ4 H5 fun y H6 => CPut xs.length Pv D i y H6 else CSkip xs.length Pv i H5)
    (hd : ∀ ys H, Pv xs.length ys H → Q (.ref D) H) : CompW (Itl K a) D g ti te σ' H Q := by
  refine comp_by xs.length Pv h0 (fun i ys H hi p => ⟨xs, xs[i], hl i ys H p, by simp [hi]⟩) (fun ys H p => ⟨xs, hl _ ys H p, Nat.le_refl _⟩) (fun i ys H x H3 hi p y => ?_) hd
  obtain ⟨e, y⟩ := y
  subst e
  exact hs i ys _ x hi (y xs (hl i ys _ p)) p
theorem comp_tup {K : PySem.W.Frag} {a D : Addr} {xs : List V} {g : TG} {ti : TT} {te : TE} {σ' : St} {H : Hp} {Q : VK} (Pv : Nat → List V → Hp → Prop) (h0 : Pv 0 [] (upd H D (.lst []))) (hl : ∀ i ys H, Pv i ys H → SqT K H a xs)
    (hs : ∀ i ys H x, i < xs.length → xs[i]? = some x → Pv i ys H → g x σ' H fun σ4 H4 => ti σ4 H4 fun b H5 => if b = true then te σ4 H5 fun y H6 => CPut xs.length Pv D i y H6 else CSkip xs.length Pv i H5)
    (hd : ∀ ys H, Pv xs.length ys H → Q (.ref D) H) : CompW (Itt K a) D g ti te σ' H Q := by
  refine comp_by xs.length Pv h0 (fun i ys H hi p => ⟨xs, xs[i], hl i ys H p, by simp [hi]⟩) (fun ys H p => ⟨xs, hl _ ys H p, Nat.le_refl _⟩) (fun i ys H x H3 hi p y => ?_) hd
  obtain ⟨e, y⟩ := y
  subst e
  exact hs i ys _ x hi (y xs (hl i ys _ p)) p
end L2
set_option Elab.async false
set_option linter.all false
set_option maxRecDepth 100000
set_option maxHeartbeats 4000000
namespace L2
open PySem PySem.Spec PyProof.Rows
mutual
def RdD (K : PySem.W.Frag) (H : Hp) : PyData → V → Prop
  | .none, v => v = .non
  | .bool b, v => v = .bl b
  | .int i, v => v = .int i
  | .str x, v => v = .str x
  | .list ds, v => ∃ p xs, v = .ref p ∧ SqL K H p xs ∧ RdDs K H ds xs
  | .tuple ds, v => ∃ p xs, v = .ref p ∧ SqT K H p xs ∧ RdDs K H ds xs
  | .dict _, _ => False
def RdDs (K : PySem.W.Frag) (H : Hp) : List PyData → List V → Prop
  | [], xs => xs = []
  | d :: ds, xs => ∃ x r, xs = x :: r ∧ RdD K H d x ∧ RdDs K H ds r
end
section
variable {X : Cx} {pins : List (Addr × Obj)} {σ : St} {H : Hp} {s : Shared}
mutual
theorem reads_of (I : Inv X pins σ H s) : ∀ (d : PyData) (v : V) (u : Value), RdD X.K H d v → RelV v u → ∃ as, Reads s.heap u d as
  | .none, v, u, h, r => by
    rw [RdD] at h; subst h; cases r; exact ⟨_, .none⟩
  | .bool b, v, u, h, r => by
    rw [RdD] at h; subst h; cases r; exact ⟨_, .bool b⟩
  | .int i, v, u, h, r => by
    rw [RdD] at h; subst h; obtain ⟨t, rfl⟩ := r; exact ⟨_, .int i t⟩
  | .str x, v, u, h, r => by
    rw [RdD] at h; subst h; obtain ⟨t, rfl⟩ := r; exact ⟨_, .str x t⟩
  | .list ds, v, u, h, r => by
    rw [RdD] at h
    obtain ⟨p, xs, rfl, hq, hs⟩ := h
    cases r
    obtain ⟨its, rv, pl, hz⟩ := I.list hq
    obtain ⟨o, ho, hc, n, hd⟩ := pl.isList
    obtain ⟨as, ra⟩ := reads_ofs I ds xs its hs rv
    exact ⟨_, reads_list_at ho hc hd (by simpa using ra)⟩
  | .tuple ds, v, u, h, r => by
    rw [RdD] at h
    obtain ⟨p, xs, rfl, hq, hs⟩ := h
    cases r
    obtain ⟨its, rv, pl, hz⟩ := I.tuple hq
    obtain ⟨o, ho, hc, n, hd⟩ := pl
    obtain ⟨as, ra⟩ := reads_ofs I ds xs its hs rv
    exact ⟨_, reads_tuple_at ho hc hd (by simpa using ra)⟩
  | .dict kvs, v, u, h, r => by
    rw [RdD] at h; exact h.elim
theorem reads_ofs (I : Inv X pins σ H s) : ∀ (ds : List PyData) (xs : List V) (us : List Value), RdDs X.K H ds xs → Vals xs us → ∃ as, ReadsAll s.heap us ds as
  | [], xs, us, h, r => by
    rw [RdDs] at h; subst h; cases r; exact ⟨_, .nil⟩
  | d :: ds, xs, us, h, r => by
    rw [RdDs] at h
    obtain ⟨x, xr, rfl, hx, hr⟩ := h
    cases r with
    | cons r1 r2 =>
      obtain ⟨as, ra⟩ := reads_of I d _ _ hx r1
      obtain ⟨bs, rb⟩ := reads_ofs I ds _ _ hr r2
      exact ⟨_, .cons ra rb⟩
end
end
def rEqD (K : PySem.W.Frag) : R2 := fun x y H Q => ∃ d e, RdD K H d x ∧ RdD K H e y ∧ SeqAt.shaped d = true ∧ SeqAt.shaped e = true ∧ Q (.bl (PyData.eqv d e)) H
def rNeD (K : PySem.W.Frag) : R2 := fun x y H Q => ∃ d e, RdD K H d x ∧ RdD K H e y ∧ SeqAt.shaped d = true ∧ SeqAt.shaped e = true ∧ Q (.bl (!PyData.eqv d e)) H
theorem hu64 {A : Around} {k : Nat} (hr : Room k A) : A.units + 64 < cLine := by have := hr.un; omega
section
variable {X : Cx}
theorem op_eqD (hu : X.A.units + 64 < cLine) : OpR X (compareOp .Eq) (rEqD X.K) := by
  intro pins s σ H x y v u Q I rx ry h
  obtain ⟨d, e, hd, he, sd, se, q⟩ := h
  obtain ⟨as, ra⟩ := reads_of I d x v hd rx
  obtain ⟨bs, rb⟩ := reads_of I e y u he ry
  exact eq_dataH ra rb sd se hu ⟨.bl (PyData.eqv d e), H, I, rfl, q⟩
theorem op_neD (hu : X.A.units + 64 < cLine) : OpR X (compareOp .NotEq) (rNeD X.K) := by
  intro pins s σ H x y v u Q I rx ry h
  obtain ⟨d, e, hd, he, sd, se, q⟩ := h
  obtain ⟨as, ra⟩ := reads_of I d x v hd rx
  obtain ⟨bs, rb⟩ := reads_of I e y u he ry
  exact ne_dataH ra rb sd se hu ⟨.bl (!PyData.eqv d e), H, I, rfl, q⟩
end
def dPt (x y w : Int) : PyData := .tuple [.int x, .int y, .int w]
theorem rd_pt {K : PySem.W.Frag} {H : Hp} {p : Addr} {x y w : Int} (h : SqT K H p [.int x, .int y, .int w]) : RdD K H (dPt x y w) (.ref p) := by
  unfold dPt
  rw [RdD]
  exact ⟨p, _, rfl, h, by simp [RdDs, RdD]⟩
end L2
set_option Elab.async false
set_option linter.all false
set_option maxRecDepth 100000
set_option maxHeartbeats 4000000
namespace L2
open PySem PySem.Spec PyProof.Rows
section
variable {X : Cx}
theorem IxR.imp {r r' : R2} (h : IxR X r) (i : ∀ x y H Q, r' x y H Q → r x y H Q) : IxR X r' := fun value slice pins s σ H x y v u Q I rx ry q hs => h value slice pins s σ H x y v u Q I rx ry (i x y H Q q) hs
theorem CallR.imp {f : Value} {r r' : List V → Hp → VK → Prop} (h : CallR X f r) (i : ∀ xs H Q, r' xs H Q → r xs H Q) : CallR X f r' := fun pins s σ H xs us Q I rv q => h pins s σ H xs us Q I rv (i xs H Q q)
theorem OpR.imp {f : Value → Value → Sem Value} {r r' : R2} (h : OpR X f r) (i : ∀ x y H Q, r' x y H Q → r x y H Q) : OpR X f r' := fun pins s σ H x y v u Q I rx ry q => h pins s σ H x y v u Q I rx ry (i x y H Q q)
def rIxTH : R2 := fun x y H Q => ∃ p xs i v, x = .ref p ∧ y = .int i ∧ H p = some (.tup xs) ∧ atI xs i = some v ∧ Q v H
def rIxLH : R2 := fun x y H Q => ∃ p xs i v, x = .ref p ∧ y = .int i ∧ H p = some (.lst xs) ∧ atI xs i = some v ∧ Q v H
theorem ix_tupH : IxR X rIxTH := ix_tup.imp fun x y H Q ⟨p, xs, i, v, e1, e2, h, e3, q⟩ => ⟨p, xs, i, v, e1, e2, .of h, e3, q⟩
theorem ix_listH : IxR X rIxLH := ix_list.imp fun x y H Q ⟨p, xs, i, v, e1, e2, h, e3, q⟩ => ⟨p, xs, i, v, e1, e2, .of h, e3, q⟩
def rLenH : List V → Hp → VK → Prop := fun xs H Q => ∃ p ys, xs = [.ref p] ∧ (H p = some (.lst ys) ∨ H p = some (.tup ys)) ∧ Q (.int ys.length) H
theorem call_lenH : CallR X (.builtin "len") rLenH := call_len_seq.imp fun xs H Q ⟨p, ys, e, h, q⟩ => ⟨p, ys, e, h.imp .of .of, q⟩
def tyF (H : Hp) (x : V) : Option String := match x with
  | .non => some "NoneType"
  | .bl _ => some "bool"
  | .int _ => some "int"
  | .str _ => some "str"
  | .ref p => match H p with
    | some (.lst _) => some "list"
    | some (.tup _) => some "tuple"
    | _ => none
  | _ => none
theorem tyF_tyN {K : PySem.W.Frag} {H : Hp} {x : V} {T : String} (h : tyF H x = some T) : tyN K H x T := by
  cases x with
  | non => exact (Option.some.inj h).symm
  | bl b => exact (Option.some.inj h).symm
  | int i => exact (Option.some.inj h).symm
  | str z => exact (Option.some.inj h).symm
  | ref p =>
    unfold tyF at h
    dsimp only at h
    cases q : H p with
    | none => rw [q] at h; cases h
    | some o =>
      rw [q] at h
      cases o with
      | lst xs => exact .inl ⟨(Option.some.inj h).symm, xs, .of q⟩
      | tup xs => exact .inr (.inl ⟨(Option.some.inj h).symm, xs, .of q⟩)
      | _ => cases h
  | _ => cases h
def rIsiF (T : String) : List V → Hp → VK → Prop := fun xs H Q => ∃ x Tx, xs = [x, .ty T] ∧ tyF H x = some Tx ∧ Q (.bl (isiB Tx T)) H
theorem isiF {T : String} (h : CallR X (.builtin "isinstance") (rIsi X.K T)) : CallR X (.builtin "isinstance") (rIsiF T) := h.imp fun xs H Q ⟨x, Tx, e, t, q⟩ => ⟨x, Tx, e, tyF_tyN t, q⟩
end
theorem tyF_lst {H : Hp} {p : Addr} {xs : List V} (h : H p = some (.lst xs)) : tyF H (.ref p) = some "list" := by unfold tyF; dsimp only; rw [h]
theorem tyF_tup {H : Hp} {p : Addr} {xs : List V} (h : H p = some (.tup xs)) : tyF H (.ref p) = some "tuple" := by unfold tyF; dsimp only; rw [h]
theorem tyF_non {H : Hp} : tyF H .non = some "NoneType" := rfl
theorem tyF_bl {H : Hp} {b : Bool} : tyF H (.bl b) = some "bool" := rfl
theorem tyF_int {H : Hp} {i : Int} : tyF H (.int i) = some "int" := rfl
theorem tyF_str {H : Hp} {z : Str} : tyF H (.str z) = some "str" := rfl
theorem at0 {α : Type} {x : α} {r : List α} : atI (x :: r) 0 = some x := atI_nat (j := 0) rfl
theorem at1 {α : Type} {x y : α} {r : List α} : atI (x :: y :: r) 1 = some y := atI_nat (j := 1) rfl
theorem at2 {α : Type} {x y z : α} {r : List α} : atI (x :: y :: z :: r) 2 = some z := atI_nat (j := 2) rfl
theorem at3 {α : Type} {x y z t : α} {r : List α} : atI (x :: y :: z :: t :: r) 3 = some t := atI_nat (j := 3) rfl
theorem at4 {α : Type} {x y z t u : α} {r : List α} : atI (x :: y :: z :: t :: u :: r) 4 = some u := atI_nat (j := 4) rfl
theorem at5 {α : Type} {x y z t u v : α} {r : List α} : atI (x :: y :: z :: t :: u :: v :: r) 5 = some v := atI_nat (j := 5) rfl
theorem at6 {α : Type} {x y z t u v w : α} {r : List α} : atI (x :: y :: z :: t :: u :: v :: w :: r) 6 = some w := atI_nat (j := 6) rfl
theorem at7 {α : Type} {x y z t u v w x' : α} {r : List α} : atI (x :: y :: z :: t :: u :: v :: w :: x' :: r) 7 = some x' := atI_nat (j := 7) rfl
theorem at8 {α : Type} {x y z t u v w x' y' : α} {r : List α} : atI (x :: y :: z :: t :: u :: v :: w :: x' :: y' :: r) 8 = some y' := atI_nat (j := 8) rfl
theorem same_put {H H' : Hp} {D : Addr} {o : HO} (g : Same H H') (h : H D = none) : Same H (upd H' D o) := fun b u q => by
  rw [upd_ne (ne_of_none q h)]
  exact g b u q
end L2
set_option Elab.async false
set_option linter.all false
set_option maxRecDepth 100000
set_option maxHeartbeats 4000000
namespace L2
open PySem PySem.Spec PyProof.Rows
section
variable {X : Cx}
theorem SlR.imp {r r' : V → Option Int → Option Int → Hp → VK → Prop} (h : SlR X r) (i : ∀ x lo hi H Q, r' x lo hi H Q → r x lo hi H Q) : SlR X r' := fun pins s σ H x v vl vu lo hi sl Q I rx hs pl pu q => h pins s σ H x v vl vu lo hi sl Q I rx hs pl pu (i x lo hi H Q q)
def rSlH : V → Option Int → Option Int → Hp → VK → Prop := fun x lo hi H Q => ∃ a xs, x = .ref a ∧ H a = some (.lst xs) ∧ ∀ p, H p = none → Q (.ref p) (upd H p (.lst (cutV xs lo hi)))
def rListH : List V → Hp → VK → Prop := fun xs H Q => ∃ p ys, xs = [.ref p] ∧ (H p = some (.lst ys) ∨ H p = some (.tup ys)) ∧ ∀ l, H l = none → Q (.ref l) (upd H l (.lst ys))
theorem call_listH : CallR X (.type "list") rListH := call_list_of.imp fun xs H Q ⟨p, ys, e, h, q⟩ => ⟨p, ys, e, h.imp .of .of, q⟩
def rIntB : List V → Hp → VK → Prop := fun xs H Q => ∃ k, xs = [.bl k] ∧ Q (.int (if k = true then 1 else 0)) H
theorem call_intB : CallR X (.type "int") rIntB := call_int1.imp fun xs H Q h => .inr h
theorem tyV_of {K : PySem.W.Frag} {H : Hp} {p : Addr} {xs : List V} (h : H p = some (.lst xs)) : tyV K "list" (.ref p) H := .inl ⟨rfl, xs, .of h⟩
theorem bt_min : bootBuiltins "min" = some (.builtin "min") := by decide +kernel
theorem bt_max : bootBuiltins "max" = some (.builtin "max") := by decide +kernel
end
section
variable {prog : Program} {w : World} {A : Around} {E : Value → Shared → Prop}
end
section
variable {X : Cx} {pos p2 : Pos}
end
end L2
set_option Elab.async false
set_option linter.all false
set_option maxRecDepth 100000
set_option maxHeartbeats 4000000
namespace L2
open PySem PySem.Spec PyProof.Rows
def ForW (J : It) (g : TG) (tb : TS) (D : Ends) (σ : St) (H : Hp) : Prop := ∃ W : Nat → Nat → St → Hp → Prop, (∃ m, W 0 m σ H) ∧ ∀ i m σ H, W i m σ H →
  (J.stop i H ∧ D.nx σ H) ∨ (J.go i H ∧ ∃ N : St → Hp → Prop, (∀ σ' H', N σ' H' → ∃ m', m' < m ∧ W (i + 1) m' σ' H') ∧ ∀ x H', J.yld i H x H' → g x σ H' fun σ2 H2 => tb { D with nx := N, ct := N, bk := D.nx } σ2 H2)
theorem tFor_mk {wi : TI} {g : TG} {tb : TS} {D : Ends} {σ : St} {H : Hp} (h : wi σ H fun J H1 => ForW J g tb D σ H1) : tFor wi g tb D σ H := h
theorem forW_list {K : PySem.W.Frag} {a : Addr} {xs : List V} {g : TG} {tb : TS} {D : Ends} {σ : St} {H : Hp} (Pv : Nat → St → Hp → Prop) (h0 : Pv 0 σ H) (hl : ∀ i σ H, i ≤ xs.length → Pv i σ H → SqL K H a xs)
    (hs : ∀ i x σ H, xs[i]? = some x → Pv i σ H → g x σ H fun σ2 H2 => tb { D with nx := Pv (i + 1), ct := Pv (i + 1), bk := D.nx } σ2 H2) (hd : ∀ σ H, Pv xs.length σ H → D.nx σ H) : ForW (Itl K a) g tb D σ H := for_list Pv h0 hl hs hd
section
open PySem.W
variable {M : Model} {K : PySem.W.Frag}
end
section
variable {X : Cx} {body suite : List Stmt} {b₀ : Stmt} {x nm : Str} {np hpos pos : Pos} {i : Nat} {C : Addr} {tb : XK → TS} {th : TS}
end
end L2
set_option Elab.async false
set_option linter.all false
set_option maxRecDepth 100000
set_option maxHeartbeats 4000000
namespace L2
open PySem PySem.Spec PyProof.Rows
section
variable {X : Cx}
def rIxA : R2 := fun x y H Q => ∃ p xs i v, x = .ref p ∧ y = .int i ∧ (H p = some (.lst xs) ∨ H p = some (.tup xs)) ∧ atI xs i = some v ∧ Q v H
theorem ix_any : IxR X rIxA := fun value slice pins s σ H x y v u Q I rx ry q hs => by
  obtain ⟨p, xs, i, z, e1, e2, h | h, e3, q⟩ := q
  · exact ix_listH value slice pins s σ H x y v u Q I rx ry ⟨p, xs, i, z, e1, e2, h, e3, q⟩ hs
  · exact ix_tupH value slice pins s σ H x y v u Q I rx ry ⟨p, xs, i, z, e1, e2, h, e3, q⟩ hs
end
theorem isi_tb : isiB "tuple" "bool" = false := by decide +kernel
theorem isi_lb : isiB "list" "bool" = false := by decide +kernel
theorem isi_lt : isiB "list" "tuple" = false := by decide +kernel
end L2
set_option Elab.async false
set_option linter.all false
set_option maxRecDepth 100000
set_option maxHeartbeats 4000000
namespace L2
open PySem PySem.Spec PyProof.Rows
section
open PySem.SeqAt
open PySem.AutoSeq1 (wpAny_loadPart')
open PySem.MeetsSeq PySem.MeetsSeq2 PySem.MeetsSeq3
end
section
variable {X : Cx}
end
section
variable {X : Cx} {pos : Pos}
def gTupH (n : Nat) (t : TGs) : TG := fun v σ H Q => ∃ a xs, v = .ref a ∧ H a = some (.tup xs) ∧ xs.length = n ∧ t xs σ H Q
theorem pg_tupH {es : List Expr} {k : Nat} {t : TGs} {n : Nat} (hc : X.calm = true) (h : PGs X es t) (hn : (assignEach es X.env).length = n := by rfl) (hst : (assignEach es X.env).findIdx? (·.1) = none := by rfl) : PG X (.Tuple es k pos) (gTupH n t) :=
  fun pins s σ H v u Q I r hw => pg_tup hc h hn hst pins s σ H v u Q I r (by
    obtain ⟨a, xs, e, q, l, z⟩ := hw
    exact ⟨a, xs, e, .of q, l, z⟩)
end
end L2
set_option Elab.async false
set_option linter.all false
set_option maxRecDepth 100000
set_option maxHeartbeats 4000000
namespace L2
open PySem PySem.Spec PyProof.Rows
section
variable {prog : Program} {w : World} {A : Around} {E : Value → Shared → Prop} {s : Shared}
end
section
variable {prog : Program} {w : World} {A : Around} {E : Value → Shared → Prop} {s : Shared}
end
section
variable {X : Cx}
end
section
variable {X : Cx}
end
end L2
set_option Elab.async false
set_option linter.all false
set_option maxRecDepth 100000
set_option maxHeartbeats 4000000
namespace L2
open PySem PySem.Spec PyProof.Rows
open PySem.Builtin PySem.Builtin.Str
section
variable {X : Cx}
end
section
variable {X : Cx} {tg : Expr}
end
end L2
set_option Elab.async false
set_option linter.all false
set_option maxRecDepth 100000
set_option maxHeartbeats 4000000
namespace L2
open PySem PySem.Spec PyProof.Rows
section
variable {X : Cx}
end
section
variable {P : Program} {w : World} {K : PySem.W.Frag} {mg : Str → Option Value} {base : Heap} {N : List Str} {qual : Str} {scope : Scope} {f : Addr} {cd : Value} {A : Around} {outer : List Env} {s₀ : Shared} {H₀ : Hp} {E : XK}
end
end L2
set_option Elab.async false
set_option linter.all false
set_option maxRecDepth 100000
set_option maxHeartbeats 4000000
namespace L2
open PySem PySem.Spec PyProof.Rows
open PySem.W (KasT kas_asc kas_desc kas_rev kas_tail3 kas_descPart kas_count kas_place kas_bin kas_sort kas_ask kas_item)
def ansT {α : Type} (ans : Nat → Nat → Bool) : KasT α → α
  | .ret a => a
  | .ask i j k => ansT ans (k (ans i j))
def Asks {α : Type} (n : Nat) (R : α → Prop) : KasT α → Prop
  | .ret a => R a
  | .ask i j k => i < n ∧ j < n ∧ ∀ b, Asks n R (k b)
theorem Asks.bind {α β : Type} {n : Nat} {R : α → Prop} {S : β → Prop} {f : α → KasT β} : ∀ {t : KasT α}, Asks n R t → (∀ a, R a → Asks n S (f a)) → Asks n S (t.bind f)
  | .ret a, h, k => k a h
  | .ask i j g, h, k => ⟨h.1, h.2.1, fun b => Asks.bind (h.2.2 b) k⟩
theorem Asks.ends {α : Type} {n : Nat} {R : α → Prop} {ans : Nat → Nat → Bool} : ∀ {t : KasT α}, Asks n R t → R (ansT ans t)
  | .ret _, h => h
  | .ask i j g, h => Asks.ends (n := n) (t := g (ans i j)) (h.2.2 (ans i j))
theorem Asks.wp {α : Type} {n : Nat} {R : α → Prop} {ans : Nat → Nat → Bool} {cmp : Nat → Nat → (Bool → Shared → Prop) → Shared → Prop} {s : Shared} {Q : α → Shared → Prop} (hc : ∀ i j C, i < n → j < n → C (ans i j) s → cmp i j C s) :
    ∀ {t : KasT α}, Asks n R t → Q (ansT ans t) s → t.kasWp cmp Q s
  | .ret _, _, q => q
  | .ask i j g, h, q => hc i j _ h.1 h.2.1 (Asks.wp (n := n) (t := g (ans i j)) hc (h.2.2 (ans i j)) q)
def Ord (n : Nat) (p : Array Nat) : Prop := p.toList.Perm (List.range n)
theorem Ord.get {n : Nat} {p : Array Nat} (h : Ord n p) (hn : 0 < n) (i : Nat) : p.getD i 0 < n := by
  by_cases hi : i < p.size
  · have e : p.getD i 0 = p[i] := by simp [Array.getD, hi]
    rw [e]
    exact List.mem_range.mp (h.mem_iff.mp (by simp))
  · have e : p.getD i 0 = 0 := by simp [Array.getD, hi]
    rw [e]
    exact hn
theorem Ord.of {n : Nat} {p q : Array Nat} (h : Ord n p) (e : q.Perm p) : Ord n q := (Array.perm_iff_toList_perm.mp e).trans h
theorem Ord.rev {n : Nat} {p : Array Nat} (h : Ord n p) (i j : Nat) : Ord n (kas_rev p i j) := h.of (mirror_perm _ _ _ _)
theorem asks_asc {n : Nat} {p : Array Nat} (h : Ord n p) (hn : 0 < n) : ∀ (f m : Nat), Asks n (fun _ => True) (kas_asc p f m)
  | 0, _ => trivial
  | f + 1, m => ⟨h.get hn _, h.get hn _, fun b => by
    cases b with
    | true => dsimp only; rw [if_pos rfl]; trivial
    | false => dsimp only; rw [if_neg (by decide)]; exact asks_asc h hn f (m + 1)⟩
theorem asks_desc {n : Nat} (hn : 0 < n) : ∀ (f : Nat) {p : Array Nat} (m q : Nat), Ord n p → Asks n (fun r => Ord n r.1) (kas_desc f p m q)
  | 0, _, _, _, h => h
  | f + 1, p, m, q, h => ⟨h.get hn _, h.get hn _, fun b => by
    cases b with
    | true =>
      dsimp only
      rw [if_pos rfl]
      by_cases z : q > 0
      · rw [if_pos z]; exact asks_desc hn f _ _ (h.rev _ _)
      · rw [if_neg z]; exact asks_desc hn f _ _ h
    | false =>
      dsimp only
      rw [if_neg (by decide)]
      refine ⟨h.get hn _, h.get hn _, fun d => ?_⟩
      cases d with
      | true => dsimp only; rw [if_pos rfl]; exact h
      | false => dsimp only; rw [if_neg (by decide)]; exact asks_desc hn f _ _ h⟩
theorem asks_tail3 {n a b : Nat} {p : Array Nat} (hn : 0 < n) (h : Ord n p) : Asks n (fun r => Ord n r.2) (kas_tail3 a b p) :=
  Asks.bind (asks_asc (h.rev _ _) hn _ _) fun _ _ => h.rev _ _
theorem asks_descPart {n a b : Nat} {p : Array Nat} (hn : 0 < n) (h : Ord n p) : Asks n (fun r => Ord n r.2) (kas_descPart a b p) :=
  Asks.bind (asks_desc hn _ _ _ h) fun r hr => by
    by_cases z : r.2.2 > 0
    · rw [if_pos z]; exact asks_tail3 hn (hr.rev _ _)
    · rw [if_neg z]; exact asks_tail3 hn hr
theorem asks_count {n b : Nat} {p : Array Nat} (hn : 0 < n) (h : Ord n p) : Asks n (fun r => Ord n r.2) (kas_count b p) :=
  Asks.bind (asks_asc h hn _ _) fun m _ => by
    by_cases z : (m == b) = true
    · rw [if_pos z]; exact h
    · rw [if_neg z]
      by_cases y : m > 1
      · rw [if_pos y]
        refine ⟨h.get hn _, h.get hn _, fun c => ?_⟩
        cases c with
        | true => dsimp only; rw [if_pos rfl]; exact h
        | false => dsimp only; rw [if_neg (by decide)]; exact asks_descPart hn (h.rev _ _)
      · rw [if_neg y]; exact asks_descPart hn h
theorem asks_place {n : Nat} {p : Array Nat} (hn : 0 < n) (h : Ord n p) (k : Nat) : ∀ (f l r : Nat), Asks n (fun _ => True) (kas_place p k f l r)
  | 0, _, _ => trivial
  | f + 1, l, r => by
    unfold kas_place
    by_cases z : l ≥ r
    · rw [if_pos z]; trivial
    · rw [if_neg z]
      refine ⟨h.get hn _, h.get hn _, fun c => ?_⟩
      cases c with
      | true => dsimp only; rw [if_pos rfl]; exact asks_place hn h k f _ _
      | false => dsimp only; rw [if_neg (by decide)]; exact asks_place hn h k f _ _
theorem asks_bin {n : Nat} (hn : 0 < n) : ∀ (f : Nat) {p : Array Nat} (k : Nat), Ord n p → Asks n (Ord n) (kas_bin f p k)
  | 0, _, _, h => h
  | f + 1, p, k, h => Asks.bind (asks_place hn h k _ _ _) fun l _ => asks_bin hn f (k + 1) (h.of (bubble_perm _ _ _))
theorem asks_sort {n : Nat} (hn : 0 < n) : Asks n (Ord n) (kas_sort n) :=
  Asks.bind (asks_count hn (by unfold Ord; simp)) fun r hr => by
    by_cases z : r.1 < n
    · rw [if_pos z]; exact asks_bin hn _ _ hr
    · rw [if_neg z]; exact hr
def Keeps (g h : Heap) : Prop := ∀ b o, g.get? b = some o → h.get? b = some o
theorem Keeps.push {g h : Heap} (k : Keeps g h) (o : Obj) : Keeps g (h.push o) := fun b x e => Heap.get?_push_of_some _ (k b x e)
theorem Keeps.upd {g h : Heap} {a : Addr} {f : Obj → Obj} (k : Keeps g h) (ha : g.objs.size ≤ a) : Keeps g (h.update a f) := fun b x e => by
  rw [Heap.get?_update_ne _ _ _ _ (Nat.ne_of_lt (Nat.lt_of_lt_of_le (Heap.lt_size e) ha))]
  exact k b x e
theorem range_getD (vs : List Value) : ((List.range vs.length).map fun i => vs.getD i Value.none) = vs := by
  refine List.ext_getElem (by simp) fun i h1 h2 => ?_
  have hi : i < vs.length := h2
  simp [hi]
section
variable {prog : Program} {w : World} {A : Around} {E : Value → Shared → Prop} {s : Shared} {vs : List Value} {κ : SortKind} {ans : Nat → Nat → Bool} {g : Heap}
theorem sort_at {a : Addr} {n : Nat} {P : PySem.Fin → Shared → Prop} (hg : Keeps g s.heap) (ga : g.objs.size ≤ a) (ho : s.heap.get? a = some (seqObj "list" vs.toArray n)) (h64 : vs.length < 64)
    (hk : 2 ≤ vs.length → ∀ h', Keeps g h' → ∀ Q', Q' κ { s with heap := h' } → wpAny (model prog w) A (keyKind' vs.toArray) Q' (fun _ _ => False) { s with heap := h' })
    (ha : 2 ≤ vs.length → ∀ h', Keeps g h' → ∀ i j C, i < vs.length → j < vs.length → C (ans i j) { s with heap := h' } → kas_ask prog w A κ vs i j C { s with heap := h' })
    (q : ∀ (p : Array Nat) h' c, Keeps g h' → Ord vs.length p → (2 ≤ vs.length → p = ansT ans (kas_sort vs.length)) → h'.get? a = some (seqObj "list" (List.toArray (p.toList.map fun i => vs.getD i Value.none)) c) → P (.done (.ret .none)) { s with heap := h' }) :
    wpAny (model prog w) A (Builtin.«list.sort» ⟨[.ref a], []⟩) P E s := by
  have z0 : vs.toArray.size = vs.length := rfl
  have zl : vs.length ≤ sizeLine := Nat.le_trans (Nat.le_of_lt h64) (by decide)
  have k1 : Keeps g (s.heap.update a (Obj.mapSeq fun _ => (#[] : Array Value))) := hg.upd ga
  obtain ⟨e1, o1⟩ : ∃ e1, (s.heap.update a (Obj.mapSeq fun _ => (#[] : Array Value))).get? a = some (seqObj "list" #[] e1) := ⟨_, get?_update_seq ho _⟩
  have k3 := (k1.push (seqObj "tuple" vs.toArray 0)).push (seqObj "list" #[] 0)
  have o3 := Heap.get?_push_of_some (seqObj "list" #[] 0) (Heap.get?_push_of_some (seqObj "tuple" vs.toArray 0) o1)
  have fin : ∀ (p : Array Nat), p.size = vs.length → Ord vs.length p → (2 ≤ vs.length → p = ansT ans (kas_sort vs.length)) → ∀ (st : SortSt), (arrOf st).map (·.2) = List.toArray (p.toList.map fun i => vs.getD i Value.none) → failedOf st = none →
      P (.done (.ret .none)) { s with heap := (((s.heap.update a (Obj.mapSeq fun _ => (#[] : Array Value))).push (seqObj "tuple" vs.toArray 0)).push (seqObj "list" #[] 0)).update a (Obj.mapSeq fun _ => (arrOf st).map (·.2)) } := fun p hp or e st hs _ => by
    rw [hs]
    exact q p _ _ (k3.upd ga) or e (get?_update_seq o3 fun _ => List.toArray (p.toList.map fun i => vs.getD i Value.none))
  rw [list_sort_plain]
  refine wpAny_bind (listItems_at ho rfl (wpAny_bind (listUpdate_at ho rfl (wpAny_bind (seqEpoch_at o1 rfl (wpAny_bind (wpAny_newTuple (wpAny_bind (wpAny_newList (wpAny_holding ?_) (Nat.zero_le _))) zl)))) zl (Nat.zero_le _))))
  dsimp only
  by_cases h2 : vs.length < 2
  · rw [z0, if_pos h2, if_pos h2, pure_bind]
    have hs : (arrOf (SortSt.mk' general' (vs.toArray.zip vs.toArray) #[] 7 none)).map (·.2) = List.toArray ((List.toArray (List.range vs.length)).toList.map fun i => vs.getD i Value.none) := by
      show (vs.toArray.zip vs.toArray).map (·.2) = _
      rw [show (List.toArray (List.range vs.length)).toList = List.range vs.length from rfl, range_getD]
      apply Array.toList_inj.mp
      simp [List.map_snd_zip]
    rw [StateT.run_pure]
    refine wpAny_bind (wpAny_pure (wpAny_bind (seqEpoch_at o3 rfl (wpAny_bind (listUpdate_at o3 rfl ?_ (Nat.zero_le _) ?_)))))
    · simp only [show failedOf (SortSt.mk' general' (vs.toArray.zip vs.toArray) #[] 7 none) = none from rfl, bne_self_eq_false, Bool.false_eq_true, if_false]
      exact wpAny_pure (fin (List.toArray (List.range vs.length)) (by simp) (by unfold Ord; simp) (fun z => absurd h2 (Nat.not_lt.mpr z)) _ hs rfl)
    · rw [hs]
      simp
      omega
  · have h2' : 2 ≤ vs.length := by omega
    rw [z0, if_neg h2, if_neg h2]
    refine wpAny_bind (hk h2' _ k3 _ ?_ |> fun x => wpAny_mono x (fun _ _ y => y) fun _ _ z => z.elim)
    have run := Asks.wp (R := Ord vs.length) (Q := fun p s' => s' = { s with heap := ((s.heap.update a (Obj.mapSeq fun _ => (#[] : Array Value))).push (seqObj "tuple" vs.toArray 0)).push (seqObj "list" #[] 0) } ∧ Ord vs.length p ∧ p = ansT ans (kas_sort vs.length)) (fun i j C hi hj => ha h2' _ k3 i j C hi hj) (asks_sort (by omega)) ⟨rfl, Asks.ends (asks_sort (by omega)), rfl⟩
    refine wpAny_bind (wpAny_mono (PySem.W.kat_run (E := E) (ks := vs) (vs := vs) (Q := fun st s' => ∃ p : Array Nat, p.size = vs.length ∧ arrOf st = p.map (kas_item (vs.toArray.zip vs.toArray)) ∧ failedOf st = none ∧ s' = { s with heap := ((s.heap.update a (Obj.mapSeq fun _ => (#[] : Array Value))).push (seqObj "tuple" vs.toArray 0)).push (seqObj "list" #[] 0) } ∧ Ord vs.length p ∧ p = ansT ans (kas_sort vs.length)) rfl h2' h64 (fun p st s' b1 b2 b3 b4 => ⟨p, b1, b2, b3, b4⟩) run) ?_ fun _ _ e => e)
    rintro ⟨⟨⟩, st⟩ s' ⟨p, hp, har, hf, rfl, or, e⟩
    have hs := PySem.W.kat_snds (ks := vs) (vs := vs) rfl har
    dsimp only
    refine wpAny_bind (seqEpoch_at o3 rfl (wpAny_bind (listUpdate_at o3 rfl ?_ (Nat.zero_le _) ?_)))
    · rw [hf]
      simp only [bne_self_eq_false, Bool.false_eq_true, if_false]
      exact wpAny_pure (fin p hp or (fun _ => e) st hs hf)
    · rw [hs]
      simp [hp]
      omega
theorem sorted_at {l : Addr} {Q : Value → Shared → Prop} (hl : s.heap.IsList l vs.toArray) (h64 : vs.length < 64)
    (hk : 2 ≤ vs.length → ∀ h', Keeps s.heap h' → ∀ Q', Q' κ { s with heap := h' } → wpAny (model prog w) A.in1.in1 (keyKind' vs.toArray) Q' (fun _ _ => False) { s with heap := h' })
    (ha : 2 ≤ vs.length → ∀ h', Keeps s.heap h' → ∀ i j C, i < vs.length → j < vs.length → C (ans i j) { s with heap := h' } → kas_ask prog w A.in1.in1 κ vs i j C { s with heap := h' })
    (q : ∀ (p : Array Nat) h' c, Keeps s.heap h' → Ord vs.length p → (2 ≤ vs.length → p = ansT ans (kas_sort vs.length)) → h'.get? (s.heap.objs.size + 1) = some (seqObj "list" (List.toArray (p.toList.map fun i => vs.getD i Value.none)) c) → Q (.ref (s.heap.objs.size + 1)) { s with heap := h' }) :
    wpAny (model prog w) A (call (.builtin "sorted") [.ref l]) Q E s := by
  have zl : vs.length ≤ sizeLine := Nat.le_trans (Nat.le_of_lt h64) (by decide)
  have k0 : Keeps s.heap s.heap := fun _ _ e => e
  have k2 := ((k0.push (seqObj "list" #[] 0)).upd (a := s.heap.objs.size) (f := Obj.mapSeq (· ++ vs.toArray)) (Nat.le_refl _)).push (seqObj "list" vs.toArray 0)
  have z2 : ((s.heap.push (seqObj "list" #[] 0)).update s.heap.objs.size (Obj.mapSeq (· ++ vs.toArray))).objs.size = s.heap.objs.size + 1 := by
    rw [Heap.size_update, size_push']
  have o2 : (((s.heap.push (seqObj "list" #[] 0)).update s.heap.objs.size (Obj.mapSeq (· ++ vs.toArray))).push (seqObj "list" vs.toArray 0)).get? (s.heap.objs.size + 1) = some (seqObj "list" vs.toArray 0) :=
    z2 ▸ Heap.get?_push_size _ rfl
  refine Calls.call_function_entry kind_sorted plain_sorted entry_sorted (args_sorted1 _) ?_
  unfold Builtin.«sorted»
  refine wpAny_bind (m := checkCount _ _ _ _) (wpAny_pure (wpAny_bind (collect_list hl (wpAny_bind (wpAny_newList ?_ zl)) zl)))
  rw [show (({ s with heap := (s.heap.push (seqObj "list" #[] 0)).update s.heap.objs.size (Obj.mapSeq (· ++ vs.toArray)) } : Shared).heap.objs.size) = s.heap.objs.size + 1 from z2]
  refine wpAny_bind (wpAny_holding (wpAny_call_entry slot_list_sort ⟨_, o2, rfl⟩ entry_list_sort (sort_at (s := { s with heap := _ }) (κ := κ) (ans := ans) k2 (Nat.le_succ _) o2 h64 hk ha fun p h' c b1 b2 b3 b4 => ⟨_, rfl, ?_⟩) (args_list_sort _)))
  exact wpAny_pure ⟨_, rfl, q p h' c b1 b2 b3 b4⟩
end
end L2
set_option Elab.async false
set_option linter.all false
set_option maxRecDepth 100000
set_option maxHeartbeats 4000000
namespace L2
open PySem PySem.Spec PyProof.Rows
open PySem.W (KasT kas_sort kas_ask)
section
open PySem.SeqAt
open PySem.AutoSeq1 (wpAny_loadPart')
open PySem.MeetsSeq PySem.MeetsSeq2 PySem.MeetsSeq3
theorem ltRc {A : Around} {s : Shared} {a c : Int} {t u : Tok} (prog : Program) (w : World) (E : Value → Shared → Prop) (Q : Value → Shared → Prop) (h : Q (.bool (decide (a < c))) s) : wpAny (model prog w) A (richCompare .Lt (.int a t) (.int c u)) Q E s :=
  (PyProof.Rows.lt_int h : wpAny (model prog w) A (compareOp .Lt (.int a t) (.int c u)) Q E s)
theorem tupleLt (l b : Addr) (items items2 : Array Value) (n n2 : Nat) (dd dd2 : Option Addr) (sl sl2 : Array (Option Value)) (ns ms : List Int) (hlen : ns.length = ms.length) (hi : IntsAre items.toList ns) (hj : IntsAre items2.toList ms) :
    Meets (Builtin.«tuple.__lt__» ⟨[.ref l, .ref b], []⟩)
      (fun _ R s => s.heap.get? l = some { cls := .type "tuple", dict := dd, data := .seq items n, slots := sl } ∧ s.heap.get? b = some { cls := .type "tuple", dict := dd2, data := .seq items2 n2, slots := sl2 } ∧ R (.ok (.ret (.bool (HT.lexLt ns ms)))) s) :=
  .of_wp fun prog w A R s h => by
    obtain ⟨hp, g, d, tk, os⟩ := s
    obtain ⟨hl, hb, h⟩ := h
    have f2 := AutoSeq1.sub_tuple_tuple
    have z1 : items.size = ns.length := by rw [← hi.length]; simp
    have z2 : items2.size = ms.length := by rw [← hj.length]; simp
    wp_walk using wpAny_loadPart' hl, wpAny_loadPart' hb, wpAny_forIn_list _ (fun rest b s' => b.1 = none ∧ s' = ⟨hp, g, d, tk, os⟩ ∧ ∃ (vs ws : List Value) (ns' ms' : List Int), rest = vs.zip ws ∧ IntsAre vs ns' ∧ IntsAre ws ms' ∧ ns'.length = ms'.length ∧ R (.ok (.ret (.bool (HT.lexLt ns' ms')))) ⟨hp, g, d, tk, os⟩) _
    case turn =>
      rintro ⟨y, x⟩ rest b s' ⟨hb', rfl, vs, ws, ns', ms', hz, hvi, hwi, hln, hR⟩
      cases hvi with
      | nil => rw [List.zip_nil_left] at hz; cases hz
      | cons a t hv =>
        cases hwi with
        | nil => rw [List.zip_nil_right] at hz; cases hz
        | cons c u hw =>
          rw [List.zip_cons_cons] at hz
          injection hz with q1 q2
          injection q1 with q3 q4
          subst q3 q4
          rw [HT.lexLt_cons] at hR
          simp only [List.length_cons] at hln
          obtain ⟨e, he, hiff⟩ := HT.eqAt_int A.in1 ⟨hp, g, d, tk, os⟩ a t c u
          refine wpAny_bind (he prog w _ _ ?_)
          cases e with
          | true =>
            rw [if_pos (hiff.mp rfl)] at hR
            wp_walk
            exact ⟨rfl, rfl, _, _, _, _, q2, hv, hw, by omega, hR⟩
          | false =>
            rw [if_neg (fun q => absurd (hiff.mpr q) Bool.false_ne_true)] at hR
            have hri := ltRc (A := A.in1) (s := ⟨hp, g, d, tk, os⟩) (a := a) (c := c) (t := t) (u := u) prog w
            wp_walk using hri
            exact ⟨_, rfl, by simpa using hR⟩
    case fin =>
      rintro ⟨b1, b2⟩ s' ⟨hb', rfl, vs, ws, ns', ms', hz, hvi, hwi, hln, hR⟩
      simp only at hb'
      subst hb'
      have hv : HT.lexLt ns' ms' = decide (items.size < items2.size) := by
        rw [decide_eq_false (by omega)]
        cases hvi with
        | nil =>
          cases hwi with
          | nil => rfl
          | cons c u hw => cases hln
        | cons a t hv =>
          cases hwi with
          | nil => cases hln
          | cons c u hw => rw [List.zip_cons_cons] at hz; cases hz
      rw [hv] at hR
      wp_walk
      exact ⟨_, rfl, by simpa [Builtin.Tuple.tupleCompareSizes] using hR⟩
    case h =>
      exact ⟨rfl, rfl, items.toList, items2.toList, ns, ms, rfl, hi, hj, hlen, h⟩
end
def TupI (h : Heap) (v : Value) (ns : List Int) : Prop := ∃ (a : Addr) (its : Array Value) (n : Nat) (dd : Option Addr) (sl : Array (Option Value)), v = .ref a ∧ h.get? a = some { cls := .type "tuple", dict := dd, data := .seq its n, slots := sl } ∧ IntsAre its.toList ns
def TupP (h : Heap) (v : Value) (ns ms : List Int) : Prop := ∃ (a : Addr) (x y : Value) (n : Nat) (dd : Option Addr) (sl : Array (Option Value)), v = .ref a ∧ h.get? a = some { cls := .type "tuple", dict := dd, data := .seq #[x, y] n, slots := sl } ∧ TupI h x ns ∧ TupI h y ms
theorem TupI.keeps {g h : Heap} {v : Value} {ns : List Int} (t : TupI g v ns) (k : Keeps g h) : TupI h v ns := by
  obtain ⟨a, its, n, dd, sl, e, o, i⟩ := t
  exact ⟨a, its, n, dd, sl, e, k _ _ o, i⟩
theorem TupP.keeps {g h : Heap} {v : Value} {ns ms : List Int} (t : TupP g v ns ms) (k : Keeps g h) : TupP h v ns ms := by
  obtain ⟨a, x, y, n, dd, sl, e, o, i, j⟩ := t
  exact ⟨a, x, y, n, dd, sl, e, k _ _ o, i.keeps k, j.keeps k⟩
theorem reads_ints {h : Heap} : ∀ {us : List Value} {ns : List Int}, IntsAre us ns → ∃ as, ReadsAll h us (ns.map PyData.int) as
  | _, _, .nil => ⟨_, .nil⟩
  | _, _, .cons n t r => let ⟨_, q⟩ := reads_ints r; ⟨_, .cons (.int n t) q⟩
theorem TupI.reads {h : Heap} {v : Value} {ns : List Int} (t : TupI h v ns) : ∃ as, Reads h v (.tuple (ns.map PyData.int)) as := by
  obtain ⟨a, its, n, dd, sl, rfl, o, i⟩ := t
  obtain ⟨as, r⟩ := reads_ints (h := h) i
  exact ⟨_, reads_tuple_at o rfl rfl (by simpa using r)⟩
theorem lay_ints : ∀ ns : List Int, PyData.canLayAll0 (ns.map PyData.int) = true
  | [] => rfl
  | n :: ns => by simp only [List.map_cons, PyData.canLayAll0, lay_ints ns, PyData.canLay0, Bool.and_self]
theorem lay_tup (ns : List Int) : PyData.canLay0 (.tuple (ns.map PyData.int)) = true := by
  simp only [PyData.canLay0, lay_ints ns]
theorem dep_ints : ∀ ns : List Int, PyData.depthAll (ns.map PyData.int) ≤ 1
  | [] => by simp [PyData.depthAll]
  | n :: ns => by
    have := dep_ints ns
    simp only [List.map_cons, PyData.depthAll, PyData.depth]
    omega
theorem eqv_ints : ∀ {ns ms : List Int}, PyData.eqvAll (ns.map PyData.int) (ms.map PyData.int) = decide (ns = ms)
  | [], [] => rfl
  | [], m :: ms => rfl
  | n :: ns, [] => rfl
  | n :: ns, m :: ms => by
    simp only [List.map_cons, PyData.eqvAll, PyData.eqv, eqv_ints]
    by_cases h1 : n = m <;> by_cases h2 : ns = ms <;> simp [h1, h2]
section
variable {prog : Program} {w : World} {A : Around} {E : Value → Shared → Prop} {s : Shared} {C : Bool → Shared → Prop}
theorem eq_tupI {x y : Value} {ns ms : List Int} (hx : TupI s.heap x ns) (hy : TupI s.heap y ms) (hu : A.units + 64 < cLine) (q : C (decide (ns = ms)) s) : wpAny (model prog w) A (eqBool x y) C E s := by
  obtain ⟨as, ra⟩ := hx.reads
  obtain ⟨bs, rb⟩ := hy.reads
  refine PySem.SeqAt.eqBoolOverData prog w A E s x y _ _ as bs C ra rb (lay_tup ns) (lay_tup ms) ?_ ?_
  · have := dep_ints ns
    have : (PyData.tuple (ns.map PyData.int)).depth ≤ 2 := by simp only [PyData.depth]; omega
    have := Nat.min_le_left (PyData.tuple (ns.map PyData.int)).depth (PyData.tuple (ms.map PyData.int)).depth
    omega
  · simp only [PyData.eqv]
    rw [eqv_ints]
    exact q
theorem lt_tupI {x y : Value} {ns ms : List Int} (hx : TupI s.heap x ns) (hy : TupI s.heap y ms) (hl : ns.length = ms.length) (hu : A.units + 64 < cLine) (q : C (HT.lexLt ns ms) s) : wpAny (model prog w) A (oneLt' false x y) C E s := by
  obtain ⟨a, its, n, dd, sl, rfl, o, i⟩ := hx
  obtain ⟨b, its2, n2, dd2, sl2, rfl, o2, i2⟩ := hy
  refine PySem.W.kat_one _ _ ?_
  exact richCompare_meets_room (op := .Lt) ⟨_, o, rfl⟩ ⟨_, o2, rfl⟩ PySem.F.slot_tuple_lt PySem.F.entry_tuple_lt (PySem.F.args_tuple_lt_2 _ _) (tupleLt a b its its2 n n2 dd dd2 sl sl2 ns ms hl i i2) ⟨o, o2, (fun z => nomatch z), q⟩ (by omega)
def ltP (a b : List Int × List Int) : Bool := if a.1 = b.1 then (if a.2 = b.2 then false else HT.lexLt a.2 b.2) else HT.lexLt a.1 b.1
theorem lt_tupP {x y : Value} {a b : List Int × List Int} (hx : TupP s.heap x a.1 a.2) (hy : TupP s.heap y b.1 b.2) (l1 : a.1.length = b.1.length) (l2 : a.2.length = b.2.length) (hu : A.units + 64 < cLine) (q : C (ltP a b) s) : wpAny (model prog w) A (keyLt' (tuples' false) x y) C E s := by
  obtain ⟨p, x1, x2, n, dd, sl, rfl, o, i1, i2⟩ := hx
  obtain ⟨p', y1, y2, n', dd', sl', rfl, o', j1, j2⟩ := hy
  unfold ltP at q
  refine PySem.W.kat_lt o rfl o' rfl (PySem.W.kat_cons (eq_tupI i1 j1 hu ?_))
  by_cases c : a.1 = b.1
  · rw [if_pos c] at q
    rw [decide_eq_true c]
    refine PySem.W.kat_yes (PySem.W.kat_cons (eq_tupI i2 j2 hu ?_))
    by_cases c2 : a.2 = b.2
    · rw [if_pos c2] at q
      rw [decide_eq_true c2]
      exact PySem.W.kat_yes (PySem.W.kat_nil q)
    · rw [if_neg c2] at q
      rw [decide_eq_false c2]
      exact PySem.W.kat_no (lt_tupI i2 j2 l2 hu q)
  · rw [if_neg c] at q
    rw [decide_eq_false c]
    exact PySem.W.kat_no (lt_tupI i1 j1 l1 hu q)
end
open PySem.W (KatTups) in
theorem ktups {h : Heap} : ∀ vs : List Value, (∀ v, v ∈ vs → ∃ a b, a ≠ [] ∧ TupP h v a b) → ∃ fs, fs.length = vs.length ∧ KatTups h vs fs ∧ ∀ f, f ∈ fs → ∃ ns, TupI h f ns
  | [], _ => ⟨[], rfl, .nil, fun f hf => by cases hf⟩
  | v :: vs, hv => by
    obtain ⟨fs, l, t, r⟩ := ktups vs fun u hu => hv u (List.mem_cons_of_mem _ hu)
    obtain ⟨a, b, ne, p, x, y, n, dd, sl, rfl, o, i, j⟩ := hv v (List.mem_cons_self ..)
    refine ⟨x :: fs, by simp [l], .cons o rfl rfl rfl t, fun f hf => ?_⟩
    rcases List.mem_cons.mp hf with rfl | hf
    · exact ⟨_, i⟩
    · exact r f hf
theorem kind_pairs {M : Model} {A : Around} {E : Value → Shared → Prop} {s : Shared} {vs : List Value} {Q : SortKind → Shared → Prop} (hn : 0 < vs.length) (hv : ∀ v, v ∈ vs → ∃ a b, a ≠ [] ∧ TupP s.heap v a b) (q : Q (tuples' false) s) : wpAny M A (keyKind' vs.toArray) Q E s := by
  obtain ⟨fs, l, t, r⟩ := ktups vs hv
  refine PySem.W.kat_kind (T := .type "tuple") t (by omega) (fun f hf => ?_) (by decide) ?_
  · obtain ⟨ns, a, its, n, dd, sl, rfl, o, _⟩ := r f hf
    exact (PySem.W.Looks.ld o).andThen .now
  · rw [show (Value.type "tuple" != Value.type "tuple") = false from by decide]
    exact q
theorem vals_at : ∀ {xs : List V} {us : List Value}, Vals xs us → ∀ i, i < xs.length → RelV (xs.getD i .non) (us.getD i Value.none)
  | _, _, .nil, i, h => by cases h
  | _, _, .cons r t, 0, _ => r
  | _, _, .cons r t, i + 1, h => vals_at t i (Nat.lt_of_succ_lt_succ h)
theorem vals_map {f : Nat → V} {g : Nat → Value} : ∀ l : List Nat, (∀ i, i ∈ l → RelV (f i) (g i)) → Vals (l.map f) (l.map g)
  | [], _ => .nil
  | i :: l, h => .cons (h i (List.mem_cons_self ..)) (vals_map l fun j hj => h j (List.mem_cons_of_mem _ hj))
section
variable {X : Cx} {pins : List (Addr × Obj)} {σ : St} {H : Hp} {s : Shared}
theorem tupI_of (I : Inv X pins σ H s) {a : Addr} {ns : List Int} (h : H a = some (.tup (ns.map V.int))) : TupI s.heap (.ref a) ns := by
  obtain ⟨its, r, ⟨⟨cls, dd, data, sl⟩, ho, hc, n, hd⟩, _⟩ := I.tuple (.of h)
  simp only at hc hd
  subst hc hd
  exact ⟨a, _, n, dd, sl, rfl, ho, intsAre_of r⟩
theorem bt_sorted : bootBuiltins "sorted" = some (.builtin "sorted") := by decide +kernel
theorem hu100 {A : Around} {k : Nat} (hr : Room k A) : A.units + 100 < cLine := by have := hr.un; omega
end
end L2
set_option Elab.async false
set_option linter.all false
set_option maxRecDepth 100000
set_option maxHeartbeats 4000000
namespace L2
open PySem PySem.Spec PyProof.Rows
section
variable {X : Cx} {tg : Expr}
end
end L2
set_option Elab.async false
set_option linter.all false
set_option maxRecDepth 100000
set_option maxHeartbeats 4000000
namespace L2
open PySem PySem.Spec PyProof.Rows
structure OnlyT (ts : List Addr) (H : Hp) : Prop where
  only : ∀ b, H b = none ∨ (∃ o xs, H b = some (.frz o (.lst xs))) ∨ (b ∈ ts ∧ H b = some (.tbl #[]))
  tabs : ∀ b, b ∈ ts → H b = some (.tbl #[])
theorem law_callT {P : Program} {w : World} {K : PySem.W.Frag} {mg mb : Str → Option Value} {CX : CXT} {k : Nat} {fa a : Addr} {fd : FuncData} {x : Str} {sp : Sp} {s₁ : Shared} {vs : List Value} {ns : List Int} {ts : List Addr}
    (KX : K.In s₁.heap) (hns : s₁.heap.Ns mainGlobals mg) (hb : s₁.heap.Ns builtinsNs mb) (hbb : ∀ x : Str, x ≠ "__name__" → mb x = bootBuiltins x) (hlim : s₁.heap.NoLimit) (hg : s₁.gens = #[])
    (ha : s₁.heap.get? a = some { cls := .type "list", data := .seq vs.toArray }) (hi : IntsAre vs ns) (hl : ns.length ≤ sizeLine) (hr : Room k callerA)
    (hT : ∀ b, b ∈ ts → s₁.heap.get? b = some (PySem.W.tabObj #[]) ∧ K.lookup b = none ∧ isCodeTable s₁.heap b)
    (hbm : ∃ bm ob, mg "__builtins__" = some (.ref bm) ∧ bm ≠ builtinsNs ∧ s₁.heap.get? bm = some ob ∧ ob.cls = .type "module" ∧ ob.dict = some builtinsNs ∧ ob.data = .plain)
    (F : ∀ base : Heap, K.In base → base.Ns mainGlobals mg → (∀ b, b ∈ ts → base.BuiltinsAt mg b) → FnOk P w K mg base CX k fa fd [x] sp) (hbind : ∀ (s : Shared) (u : Value), BindsTo s fd ⟨[u], []⟩ [(x, u)])
    (hsp : ∀ H : Hp, OnlyT ts H → SqL K H a (ns.map V.int) → sp [.ref a] H (fun v _ => v = .bl true) fun _ _ _ => False)
    (hCX : ∀ H e s', CX [] H s₁ (fun _ _ _ => False) e s' → False) :
    codeAny (model P w) callerA (.call (.ref fa) ⟨[.ref a], []⟩) (fun r s' => r = .ok (.ret (.bool true)) ∧ OldK s₁.heap s'.heap ∧ s'.os = s₁.os ∧ AllBare s'.gens) s₁ := by
  have rv := vals_ints hi
  have lenV := hi.length
  have naT : a ∉ ts := fun z => by
    have e := (hT a z).1
    rw [ha] at e
    cases e
  have core : ∀ H : Hp, OnlyT ts H → SqL K H a (ns.map V.int) → HOk P w H s₁.heap → (∀ b, H b ≠ none → b = a ∨ b ∈ ts) → (H a ≠ none → K.lookup a = none) →
      codeAny (model P w) callerA (.call (.ref fa) ⟨[.ref a], []⟩) (fun r s' => r = .ok (.ret (.bool true)) ∧ OldK s₁.heap s'.heap ∧ s'.os = s₁.os ∧ AllBare s'.gens) s₁ := by
    intro H hO hS hok hA hK
    have base_of : ∀ {b : Addr} {o : Obj}, s₁.heap.get? b = some o → H b = none → (hidT s₁.heap H).get? b = some o := fun e n => hidT_get e n
    have noD : ∀ {b : Addr} {o : Obj}, s₁.heap.get? b = some o → o.cls ≠ .none → o.cls ≠ .type "list" → H b = none := fun {b o} e d1 d2 => by
      cases q : H b with
      | none => rfl
      | some u =>
        rcases hA b (by rw [q]; simp) with e' | e'
        · subst e'
          rw [ha] at e; cases e
          exact absurd rfl d2
        · rw [(hT b e').1] at e; cases e
          exact absurd rfl d1
    have noA : ∀ {b : Addr} {o : Obj} {es : Array DictEntry} {ep : Nat}, s₁.heap.get? b = some o → o.data = .dict es ep → H b = none := fun {b o es ep} e d => by
      cases q : H b with
      | none => rfl
      | some u =>
        rcases hA b (by rw [q]; simp) with e' | e'
        · subst e'
          rw [ha] at e; cases e
          have d' : Data.seq vs.toArray _ = Data.dict es ep := d
          cases d'
        · rw [(hT b e').1] at e; cases e
          have d' : Data.fields #[] = Data.dict es ep := d
          cases d'
    have nsK : ∀ {b : Addr} {m : Str → Option Value}, s₁.heap.Ns b m → (hidT s₁.heap H).Ns b m := fun {b m} ⟨o, es, ep, e, d, r⟩ => ⟨o, es, ep, base_of e (noA e d), d, r⟩
    have hKb : K.In (hidT s₁.heap H) := fun b o e => base_of (KX b o e) (by
      cases q : H b with
      | none => rfl
      | some u =>
        rcases hA b (by rw [q]; simp) with e' | e'
        · subst e'
          rw [hK (by rw [q]; simp)] at e; cases e
        · rw [(hT b e').2.1] at e; cases e)
    have hM : Mod K mg (hidT s₁.heap H) := ⟨hKb, nsK hns, ⟨mb, nsK hb, hbb⟩, let ⟨mc, h1, h2⟩ := hlim; ⟨mc, nsK h1, h2⟩⟩
    have hB : ∀ b, b ∈ ts → (hidT s₁.heap H).BuiltinsAt mg b := fun b hb' => by
      obtain ⟨bm, ob, b1, b2, b3, b4, b5, b6⟩ := hbm
      refine ⟨bm, ob, b1, b2, fun q => ?_, fun q => ?_, base_of b3 (noD b3 (by rw [b4]; simp) (by rw [b4]; simp)), b4, b5, b6⟩
      · obtain ⟨o, es, ep, e, d, _⟩ := hns
        rw [← q, b3] at e; cases e
        rw [b6] at d; cases d
      · rw [q, (hT b hb').1] at b3; cases b3; cases b4
    have e0 : Env0 P w K mg (hidT s₁.heap H) callerA [] s₁ H := ⟨rfl, hM, fun b o e => of_hidT e, Nat.le_of_eq (hidT_size _ _), trivial, fun b hb => absurd (show b ∈ ([] : List Addr) from hb) (by simp), hok, .of_eq hg⟩
    refine codeAny_mono ((F _ hKb (nsK hns) hB).run callerA [] s₁ H ⟨[.ref a], []⟩ [.ref a] [.ref a] _ _ hr e0 (hbind s₁ (.ref a)) (.cons rfl .nil) (hsp H hO hS)) fun r s' h => ?_
    cases r with
    | error e => exact (hCX H e s' h).elim
    | ok fl =>
      cases fl with
      | next => exact False.elim h
      | brk => exact False.elim h
      | cont => exact False.elim h
      | ret u =>
        obtain ⟨v, H', os, bare, un, hok', r', q⟩ := h
        have q' : v = .bl true := q
        subst q'
        obtain rfl : u = Value.bool true := r'
        have at' : ∀ b o, s₁.heap.get? b = some o → asItWas s₁.heap s'.heap b o := fun b o e => by
          cases q : H b with
          | none => exact .inl (un.keep b o e q (by intro z; exact absurd (show b ∈ ([] : List Addr) from z) (by simp)) (by simp))
          | some u =>
            rcases hO.only b with z | ⟨ob, xs, z⟩ | ⟨hbt, z⟩
            · rw [q] at z; cases z
            · have z2 := un.frzs b ob _ z
              obtain ⟨e1, _⟩ := hok b _ z
              obtain ⟨e2, _⟩ := hok' b _ z2
              rw [e] at e1; cases e1
              exact .inl e2
            · obtain ⟨more, z2⟩ := un.tbls b _ z
              have e2 : s'.heap.get? b = some { cls := .none, data := .fields (#[] ++ more) } := hok' b _ z2
              have e1 := (hT b hbt).1
              rw [e] at e1; cases e1
              exact .inr (.inl ⟨(hT b hbt).2.2, rfl, #[], more, rfl, e2⟩)
        exact ⟨rfl, ⟨at', fun b o e => un.there b o e (by simp)⟩, os, bare⟩
  cases hk : K.lookup a with
  | some o =>
    have e := KX a o hk
    rw [ha] at e
    cases e
    refine core (fun b => if b ∈ ts then some (.tbl #[]) else none) ⟨fun b => ?_, fun b hb' => if_pos hb'⟩ (.inr ⟨_, vs.toArray, _, hk, rfl, rfl, rfl, by rw [List.size_toArray, lenV]; exact hl, by simpa using rv⟩) (fun b u z => ?_) (fun b z => ?_) fun z => absurd (if_neg naT) z
    · by_cases hbt : b ∈ ts
      · exact .inr (.inr ⟨hbt, if_pos hbt⟩)
      · exact .inl (if_neg hbt)
    · by_cases hbt : b ∈ ts
      · have z' := (if_pos hbt).symm.trans z
        cases z'
        exact (hT b hbt).1
      · have z' := (if_neg hbt).symm.trans z
        cases z'
    · by_cases hbt : b ∈ ts
      · exact .inr hbt
      · exact absurd (if_neg hbt) z
  | none =>
    refine core (fun b => if b = a then some (.frz { cls := .type "list", data := .seq vs.toArray } (.lst (ns.map V.int))) else if b ∈ ts then some (.tbl #[]) else none) ⟨fun b => ?_, fun b hb' => ?_⟩ (.inl (.inr ⟨{ cls := .type "list", data := .seq vs.toArray }, if_pos rfl⟩)) (fun b u z => ?_) (fun b z => ?_) fun _ => hk
    · by_cases hb : b = a
      · exact .inr (.inl ⟨_, _, if_pos hb⟩)
      · by_cases hbt : b ∈ ts
        · exact .inr (.inr ⟨hbt, (if_neg hb).trans (if_pos hbt)⟩)
        · exact .inl ((if_neg hb).trans (if_neg hbt))
    · have hb : ¬ b = a := fun z => naT (z ▸ hb')
      exact (if_neg hb).trans (if_pos hb')
    · by_cases hb : b = a
      · have z' := (if_pos hb).symm.trans z
        cases z'
        subst hb
        exact ⟨ha, by rw [List.length_map]; exact hl, vs, _, rv, ha⟩
      · by_cases hbt : b ∈ ts
        · have z' := ((if_neg hb).trans (if_pos hbt)).symm.trans z
          cases z'
          exact (hT b hbt).1
        · have z' := ((if_neg hb).trans (if_neg hbt)).symm.trans z
          cases z'
    · by_cases hb : b = a
      · exact .inl hb
      · by_cases hbt : b ∈ ts
        · exact .inr hbt
        · exact absurd ((if_neg hb).trans (if_neg hbt)) z
theorem walk_ofT {l : PySem.W.OpenLaw} {n k : Nat} {q : Program} {loose : List Str} {XP : (Str → Option Value) → Heap → Prop} {YP : World → Heap → Prop} {d : DefRec} {K : Params → PySem.W.Frag} {CX : World → CXT} {sp : World → List Addr → Sp} {x : Str} {ds : List Str}
    (hn : l.most = some n) (hn2 : n ≤ sizeLine) (hdf : d.params.defaults = []) (hr : Room k callerA)
    (hY : ∀ (w : World) (h : Heap), YP w h → (K w.params).In h)
    (hD : ∀ y, y ∈ ds → ∃ e, (recsOf q).find? (fun e => e.name == y) = some e)
    (F : ∀ (w : World) (mg : Str → Option Value) (fa : Addr) (h : Heap), (K w.params).In h → h.Ns mainGlobals mg → mg d.name = some (.ref fa) →
      ∃ (fd : FuncData) (ts : List Addr), (∀ b, b ∈ ts → (K w.params).lookup b = none ∧ ∃ y c, y ∈ ds ∧ PySem.W.tabIn (K w.params) y = some (c, b)) ∧ (∀ (s : Shared) (u : Value), BindsTo s fd ⟨[u], []⟩ [(x, u)]) ∧
        ∀ base : Heap, (K w.params).In base → base.Ns mainGlobals mg → (∀ b, b ∈ ts → base.BuiltinsAt mg b) → FnOk l.prog w (K w.params) mg base (CX w) k fa fd [x] (sp w ts))
    (hsp : ∀ (w : World) (H : Hp) (a : Addr) (ns : List Int) (ts : List Addr), ns.length ≤ n → OnlyT ts H → SqL (K w.params) H a (ns.map V.int) → sp w ts [.ref a] H (fun v _ => v = .bl true) fun _ _ _ => False)
    (hCX : ∀ (w : World) (H : Hp) (s : Shared) (e : Value) (s' : Shared), CX w [] H s (fun _ _ _ => False) e s' → False) :
    PySem.W.WalkO q loose XP YP l.row.toRowW d [] (fun f vs => PySem.call f vs) := by
  refine Att.attach_call hn hdf fun w s₀ s₁ mg mb fa o pm cd doc a vs ns G Y ho hd hcd hmg hobj hints hlen hg => ?_
  have KX := hY w _ Y
  obtain ⟨fd, ts, ht, hb, hF⟩ := F w mg fa _ KX G.T.g hmg
  refine law_callT (ts := ts) KX G.T.g G.T.b G.T.builtins G.T.nolimit hg hobj hints (Nat.le_trans hlen hn2) hr (fun b hb' => ?_) G.T.bmain hF hb (fun H hO hS => hsp w H a ns ts hlen hO hS) fun H e s' => hCX w H s₁ e s'
  obtain ⟨hk, y, c, hy, e⟩ := ht b hb'
  obtain ⟨r, hr'⟩ := hD y hy
  obtain ⟨C, hP⟩ := PySem.W.tab_of G.T KX hr' e
  exact ⟨hP, hk, (C.tab hP).isCodeTable⟩
end L2
set_option Elab.async false
set_option linter.all false
set_option maxRecDepth 100000
set_option maxHeartbeats 4000000
namespace L2
open PySem PySem.Spec PyProof.Rows
open PySem.W (kla_fn kla_obj envX tabObj CodeHd)
structure LamScope (x y : Str) (sc : Scope) : Prop where
  kind : sc.kind = .function
  co : sc.isCoroutine = false
  gen : sc.isGenerator = false
  par : sc.names.lookup x = some .local
  cap : sc.names.lookup y = some .free
  nocell : ∀ z, z ∈ sc.names → z.2 ≠ .cell
  free : ∀ z, z ∈ sc.names → z.2 = .free → z.1 = y
def cxLam (P : Program) (w : World) (K : PySem.W.Frag) (mg : Str → Option Value) (base : Heap) (x y : Str) (qual : Str) (sc : Scope) (f : Addr) (cd : Value) (c : Addr) (A : Around) (outer : List Env) (s : Shared) (H : Hp) : Cx where
  prog := P
  w := w
  K := K
  mg := mg
  base := base
  A := A.deeper (envX qual sc s.heap.objs.size f cd [(y, c)])
  N := [x, y]
  s₀ := s
  H₀ := H
  env := envX qual sc s.heap.objs.size f cd [(y, c)]
  outer := outer
  stack := envX qual sc s.heap.objs.size f cd [(y, c)] :: outer
  ex := []
  calm := true
  fn := fun _ => false
  pn := []
  xe := fun _ _ => False
theorem lookup_one {y z : Str} {c d : Addr} (h : ([(y, c)] : List (Str × Addr)).lookup z = some d) : z = y ∧ d = c := by
  rw [List.lookup_cons] at h
  by_cases e : z = y
  · subst e
    rw [beq_self_eq_true] at h
    cases h
    exact ⟨rfl, rfl⟩
  · rw [beq_eq_false_iff_ne.mpr e] at h
    cases h
theorem lookup_self (y : Str) (c : Addr) : ([(y, c)] : List (Str × Addr)).lookup y = some c := by rw [List.lookup_cons, beq_self_eq_true]
theorem inv_lam {P : Program} {w : World} {K : PySem.W.Frag} {mg : Str → Option Value} {base : Heap} {x y qual : Str} {sc : Scope} {f c : Addr} {cd : Value} {A : Around} {outer : List Env} {s : Shared} {H : Hp} {u uy : Value} {v vy : V} {h₁ : Heap} {tk : Nat}
    (S : LamScope x y sc) (hd : A.handled = none) (e0 : Env0 P w K mg base A outer s H) (ru : RelV v u) (ry : RelV vy uy) (hc : s.heap.IsCell c (some uy)) (hcn : H c = none)
    (hns : h₁.Ns s.heap.objs.size (fun z => ([(x, u)] : List (Str × Value)).reverse.lookup z)) (hk : ∀ b o, s.heap.get? b = some o → h₁.get? b = some o) :
    Inv (cxLam P w K mg base x y qual sc f cd c A outer s H) [] [some v, some vy] H { s with heap := h₁, toks := tk } := by
  have noA : ∀ b : Addr, b ∉ (cxLam P w K mg base x y qual sc f cd c A outer s H).ex := fun b z => absurd (show b ∈ ([] : List Addr) from z) (by simp)
  refine ⟨⟨e0.mod, S.kind, rfl, rfl, Nat.le_refl _, fun y1 z1 d h1 h2 => ?_, fun z hz => ?_, fun z d hf _ => ?_, fun _ => hd, Around.frames_deeper e0.frames, .inr ⟨rfl, rfl⟩, fun b z => absurd z (noA b), e0.bs, e0.bsz, fun b _ _ => noA b, fun b z => absurd z (noA b), e0.funs, e0.frf⟩,
    rfl, e0.bare, Un.kept hk, ⟨_, hns, fun i z v' h1 h2 h3 => ?_⟩, fun z d h => ?_, e0.hok.fresh (Nat.le_refl _), fun z d h => ?_, fun p hp => absurd (show p ∈ ([] : List (Addr × Obj)) from hp) (by simp), e0.hok.kept hk, rfl⟩
  · exact (lookup_one h1).1.trans (lookup_one h2).1.symm
  · have hz : sc.names.lookup z = some .cell ∨ sc.names.lookup z = some .free := hz
    rcases hz with hz | hz
    · exact absurd rfl (S.nocell _ (PySem.mem_of_lookup hz))
    · have e := S.free _ (PySem.mem_of_lookup hz) rfl
      have e : z = y := e
      subst e
      exact ⟨c, lookup_self _ _⟩
  · cases hf
  · match i, h1, h2 with
    | 0, h1, h2 =>
      cases h1
      cases h2
      refine ⟨u, ru, .inl ⟨S.par, ?_⟩⟩
      show ([(x, u)] : List (Str × Value)).reverse.lookup x = some u
      simp
    | 1, h1, h2 =>
      cases h1
      cases h2
      obtain ⟨o, ho, hd'⟩ := hc
      exact ⟨uy, ry, .inr ⟨.inr S.cap, c, lookup_self _ _, o, hk _ _ ho, hd'⟩⟩
  · obtain ⟨_, rfl⟩ := lookup_one h
    obtain ⟨o, ho, hd'⟩ := hc
    exact ⟨_, o, hk _ _ ho, hd'⟩
  · obtain ⟨_, rfl⟩ := lookup_one h
    exact hcn
section
variable {X : Cx} {pins : List (Addr × Obj)} {σ : St} {H : Hp} {s : Shared}
theorem lam_run {A : Around} {k : Nat} {x y name qual : Str} {params : Arguments} {body : Expr} {sc : Scope} {fa c c' : Addr} {pm ctv u uy : Value} {v vy : V} {te : TE} {Q : VK} (I : Inv X pins σ H s)
    (e0 : Env0 X.prog X.w X.K X.mg X.base A X.stack s H) (hr : Room k A) (S : LamScope x y sc) (ho : s.heap.get? fa = some (kla_obj name qual params body sc [(y, c)] pm c' ctv)) (hcd : s.heap.CodeRec (.ref c') qual)
    (hb : bindArgs (kla_fn name qual params body sc [(y, c)] pm (.ref c') ctv) ⟨[u], []⟩ = pure [(x, u)]) (ru : RelV v u) (ry : RelV vy uy) (hc : s.heap.IsCell c (some uy)) (hcn : H c = none)
    (hbody : PE (cxLam X.prog X.w X.K X.mg X.base x y qual sc fa (.ref c') c A X.stack s H) body te) (q : te [some v, some vy] H Q) :
    wpAny (model X.prog X.w) A (call (.ref fa) [u]) (EP X pins σ Q) (fun _ _ => False) s := by
  refine wpAny_call (codeAny_mono (R := CR CX0 X.stack X.prog X.w H s Q E0) ?_ fun r s' hq => ?_)
  · refine PySem.W.kla_callFunE hr.depth ho rfl S.co S.gen rfl hcd ?_
    rw [hb]
    refine wpAny_pure (wpAny_newFunctionEnv S.nocell (fun z hz => ?_) (fun h₁ hns hsb => ⟨I.nolimit.fresh _ hsb, ?_⟩) S.kind)
    · rw [List.mem_singleton] at hz
      rw [hz]
      exact S.par
    · show codeAny _ _ (.expr body (envX qual sc s.heap.objs.size fa (.ref c') [(y, c)])) _ _
      have kp : ∀ d u, s.heap.get? d = some u → h₁.get? d = some u := fun d u z => hsb.extBut d u (Nat.ne_of_lt (Heap.lt_size z)) (Heap.get?_push_of_some _ z)
      have J := inv_lam (tk := s.toks + 1) (f := fa) (qual := qual) (cd := .ref c') S hr.hd e0 ru ry hc hcn hns kp
      refine PySem.W.kla_codeExpr (wpAny_mono (hbody [] _ _ H Q J q) (fun r s' hs => ?_) fun e s' hs => hs.elim)
      obtain ⟨v', H', J', r', q'⟩ := hs
      exact ⟨v', H', J'.os, J'.bare, J'.base, J'.hok, r', q'⟩
  · cases r with
    | error e => exact hq.elim
    | ok fl =>
      cases fl with
      | ret u => exact I.after hq
      | next => exact False.elim hq
      | brk => exact False.elim hq
      | cont => exact False.elim hq
end
end L2
set_option Elab.async false
set_option linter.all false
set_option maxRecDepth 100000
set_option maxHeartbeats 4000000
namespace L2
open PySem PySem.Spec PyProof.Rows
open PySem.W (kla_fn kla_obj envX tabObj CodeHd)
def codeX (c : Addr) (q : Str) : HO := .ext fun h => h.CodeRec (.ref c) q
def LamTab (H : Hp) (P : Addr) (pos : Pos) (q : Str) : Prop := ∃ ps, H P = some (.tbl ps) ∧ TriplesOk ps.toList ∧ (codeAmong pos ps.toList = none ∨ ∃ c, codeAmong pos ps.toList = some (.ref c) ∧ H c = some (codeX c q))
def SameT (P : Addr) (H H' : Hp) : Prop := ∀ b o, b ≠ P → H b = some o → H' b = some o
theorem SameT.refl (P : Addr) (H : Hp) : SameT P H H := fun _ _ _ h => h
theorem SameT.of {P : Addr} {H H' : Hp} (g : Same H H') : SameT P H H' := fun b o _ h => g b o h
theorem SameT.trans {P : Addr} {H H1 H2 : Hp} (a : SameT P H H1) (b : SameT P H1 H2) : SameT P H H2 := fun c o n h => b c o n (a c o n h)
theorem LamTab.same {H H' : Hp} {P : Addr} {pos : Pos} {q : Str} (h : LamTab H P pos q) (g : Same H H') : LamTab H' P pos q := by
  obtain ⟨ps, e, t, z⟩ := h
  refine ⟨ps, g _ _ e, t, ?_⟩
  rcases z with z | ⟨c, z, y⟩
  · exact .inl z
  · exact .inr ⟨c, z, g _ _ y⟩
section
variable {X : Cx} {pins : List (Addr × Obj)} {σ : St} {H : Hp} {s : Shared}
theorem lam_make {params : Arguments} {body : Expr} {sc : Scope} {pos : Pos} {c0 P : Addr} {clos : List (Str × Addr)} {Q : Value → Shared → Prop} (I : Inv X pins σ H s) (hcode : X.env.code = .ref c0) (C : CodeHd X.base c0 P) (hB : X.base.BuiltinsAt X.mg P)
    (hcl : closureFor sc X.env = pure clos) (hdef : defaultsOf params X.env = ([], [])) (ht : LamTab H P pos (X.env.qual ++ "<lambda>"))
    (q : ∀ (fa c' : Addr) (ctv : Value) (H' : Hp) (s' : Shared), Inv X pins σ H' s' → SameT P H H' → LamTab H' P pos (X.env.qual ++ "<lambda>") → s'.heap.get? fa = some (kla_obj "<lambda>" (X.env.qual ++ "<lambda>") params body sc clos ((X.mg "__name__").getD .none) c' ctv) →
      H' c' = some (codeX c' (X.env.qual ++ "<lambda>")) → FpOk X pins H' fa → Q (.ref fa) s') :
    wpAny (model X.prog X.w) X.A (eval (.Lambda params body sc pos) X.env) Q X.xe s := by
  obtain ⟨ps, hP, tr, alt⟩ := ht
  have hPh : s.heap.get? P = some (tabObj ps) := I.hok P _ hP
  have kb := I.bk
  have hg : s.heap.Ns mainGlobals X.mg := I.ok.mod.glob.keeps kb
  have Cs := C.keeps kb
  have Bs : s.heap.BuiltinsAt X.mg P := by
    obtain ⟨bm, o, b1, b2, b3, b4, b5, b6⟩ := hB
    exact ⟨bm, o, b1, b2, b3, b4, kb _ _ b5, b6⟩
  have neG : mainGlobals ≠ P := fun z => by
    obtain ⟨o, es, ep, e, hd, _⟩ := hg
    rw [z, hPh] at e; cases e; cases hd
  refine PySem.W.kla_eval hdef ?_
  rcases alt with hn | ⟨c', hf, hc'⟩
  · refine PySem.W.kla_makeFunction hcl I.ok.glob hg hcode Cs hPh tr hn neG Bs fun c' ctv h' tk hx hge hlt hrec htb => ?_
    have neC : ∀ b u, H b = some u → b ≠ c' := fun b u e z => by
      rw [z, I.hok.fresh hge] at e; cases e
    have nP : ∀ b, H b = none → b ≠ P := fun b n z => by rw [z, hP] at n; cases n
    have cP : c' ≠ P := fun z => by rw [← z, I.hok.fresh hge] at hP; cases hP
    have keep : ∀ b o, b ≠ P → s.heap.get? b = some o → (h'.push (kla_obj "<lambda>" (X.env.qual ++ "<lambda>") params body sc clos ((X.mg "__name__").getD .none) c' ctv)).get? b = some o := fun b o n e => Heap.get?_push_of_some _ (hx b o n e)
    have hP' := Heap.get?_push_of_some (kla_obj "<lambda>" (X.env.qual ++ "<lambda>") params body sc clos ((X.mg "__name__").getD .none) c' ctv) htb
    have upP : ∀ b u, b ≠ P → H b = some u → upd (upd H P (.tbl (ps ++ #[rawInt pos.line, rawInt pos.col, .ref c']))) c' (codeX c' (X.env.qual ++ "<lambda>")) b = some u := fun b u n e => by rw [upd_ne (neC b u e), upd_ne n]; exact e
    have up0 : upd (upd H P (.tbl (ps ++ #[rawInt pos.line, rawInt pos.col, .ref c']))) c' (codeX c' (X.env.qual ++ "<lambda>")) P = some (.tbl (ps ++ #[rawInt pos.line, rawInt pos.col, .ref c'])) := by rw [upd_ne cP.symm, upd_same]
    have J : Inv X pins σ (upd (upd H P (.tbl (ps ++ #[rawInt pos.line, rawInt pos.col, .ref c']))) c' (codeX c' (X.env.qual ++ "<lambda>"))) { s with heap := h'.push (kla_obj "<lambda>" (X.env.qual ++ "<lambda>") params body sc clos ((X.mg "__name__").getD .none) c' ctv), toks := tk } := by
      refine I.step (g' := s.gens) (d' := s.drawn) (ch := []) (fun _ z => nomatch z) (fun b o _ _ _ e n => keep b o (nP b n) e) (fun b o _ _ _ e n => ⟨o.slots, keep b o (nP b n) e⟩) (fun b o _ e n => ?_) (fun b o _ e => ?_) (fun b xs e => ?_) (fun b o u e => ?_) (fun b qs e => ?_) (fun m hm => ?_) (fun b u e => ?_) I.bare
      · rw [upd_ne (Nat.ne_of_lt (Nat.lt_of_lt_of_le (Heap.lt_size e) hge)), upd_ne (nP b n)]
        exact n
      · by_cases z : b = P
        · exact ⟨_, z ▸ hP'⟩
        · exact ⟨o, keep b o z e⟩
      · exact upP b _ (fun z => by rw [z, hP] at e; cases e) e
      · exact upP b _ (fun z => by rw [z, hP] at e; cases e) e
      · by_cases z : b = P
        · subst z
          rw [hP] at e
          cases e
          exact ⟨_, up0⟩
        · exact ⟨#[], by rw [upP b _ z e]; simp⟩
      · obtain ⟨o, es, ep, ho, r⟩ := hm
        exact ⟨o, es, ep, keep _ o (nP _ I.free) ho, r⟩
      · by_cases z : b = c'
        · subst z
          rw [upd_same] at e
          cases e
          have hr2 := hrec.push (kla_obj "<lambda>" (X.env.qual ++ "<lambda>") params body sc clos ((X.mg "__name__").getD .none) b ctv)
          obtain ⟨c2, oc, vs, t, e2, hoc, hd, hv⟩ := id hr2
          cases e2
          refine ⟨hr2, ⟨oc, hoc⟩, fun h1 h2 ph k => ?_⟩
          obtain ⟨c3, oc3, vs3, t3, e3, hoc3, hd3, hv3⟩ := ph
          cases e3
          exact ⟨_, oc3, vs3, t3, rfl, k _ hoc3, hd3, hv3⟩
        · rw [upd_ne z] at e
          by_cases y : b = P
          · subst y
            rw [upd_same] at e
            cases e
            exact hP'
          · rw [upd_ne y] at e
            refine (I.hok b u e).stay (fun d v hd hv => keep d v ?_ hv) (fun d hd => ?_) fun d xs hd => ?_
            · rcases hd with rfl | hd
              · exact y
              · intro z'; rw [z', hP] at hd; cases hd
            · exact upP d _ (fun z' => by rw [z', hP] at hd; cases hd) hd
            · exact upP d _ (fun z' => by rw [z', hP] at hd; cases hd) hd
    refine q h'.objs.size c' ctv _ _ J (fun b o n e => upP b o n e) ⟨_, up0, ?_, .inr ⟨c', ?_, upd_same⟩⟩ (Heap.get?_push_size _ rfl) upd_same ?_
    · rw [Array.toList_append]
      exact TriplesOk_snoc _ _ _ _ tr
    · rw [Array.toList_append]
      exact codeAmong_snoc _ tr hn
    · have hsz : s.heap.objs.size ≤ h'.objs.size := Nat.le_trans hge (Nat.le_of_lt hlt)
      have nf : upd (upd H P (.tbl (ps ++ #[rawInt pos.line, rawInt pos.col, .ref c']))) c' (codeX c' (X.env.qual ++ "<lambda>")) h'.objs.size = none := by
        rw [upd_ne (Nat.ne_of_gt hlt), upd_ne]
        · exact I.hok.fresh hsz
        · intro z
          rw [← z, I.hok.fresh hsz] at hP
          cases hP
      exact I.fpOk hsz nf
  · have hrec : s.heap.CodeRec (.ref c') (X.env.qual ++ "<lambda>") := (I.hok c' _ hc').1
    refine PySem.W.kla_makeFunctionHit hcl I.ok.glob hg hcode Cs hPh tr hf Bs fun ctv h' tk hk hsz => ?_
    have J : Inv X pins σ H { s with heap := h'.push { cls := .type "function", data := .func (kla_fn "<lambda>" (X.env.qual ++ "<lambda>") params body sc clos ((X.mg "__name__").getD .none) (.ref c') ctv) }, toks := tk } := I.kept fun b o e => Heap.get?_push_of_some _ (hk b o e)
    exact q h'.objs.size c' ctv H _ J (.refl P H) ⟨ps, hP, tr, .inr ⟨c', hf, hc'⟩⟩ (Heap.get?_push_size _ rfl) hc' (I.fpOk hsz (I.hok.fresh hsz))
end
end L2
set_option Elab.async false
set_option linter.all false
set_option maxRecDepth 100000
set_option maxHeartbeats 4000000
namespace L2
open PySem PySem.Spec PyProof.Rows
open PySem.W (KasT kas_sort kas_ask kas_item)
section
variable {prog : Program} {w : World} {A : Around} {E : Value → Shared → Prop} {s : Shared} {vs ks : List Value} {g : Heap} {a kS : Addr} {e e1 : Nat} {f : Value}
def KeyFin (prog : Program) (w : World) (A : Around) (a kS : Addr) (e1 : Nat) (vs ks : List Value) (P : PySem.Fin → Shared → Prop) (s : Shared) : Prop :=
  s.heap.get? a = some (seqObj "list" #[] e1) ∧ ∃ (κ : SortKind) (ans : Nat → Nat → Bool),
    (2 ≤ vs.length → ∀ Q' : SortKind → Shared → Prop, Q' κ s → wpAny (model prog w) A (keyKind' ks.toArray) Q' (fun _ _ => False) s) ∧
    (2 ≤ vs.length → ∀ i j C, i < vs.length → j < vs.length → C (ans i j) s → kas_ask prog w A κ ks i j C s) ∧
    ∀ p : Array Nat, Ord vs.length p → (2 ≤ vs.length → p = ansT ans (kas_sort vs.length)) → P (.done (.ret .none)) { s with heap := (s.heap.update kS (Obj.mapSeq fun _ => (#[] : Array Value))).update a (Obj.mapSeq fun _ => List.toArray (p.toList.map fun i => vs.getD i Value.none)) }
theorem keyed_tail {st : SortSt} {p : Array Nat} {P : PySem.Fin → Shared → Prop} (hs : (arrOf st).map (·.2) = List.toArray (p.toList.map fun i => vs.getD i Value.none)) (hf : failedOf st = none) (hz : p.size = vs.length) (h64 : vs.length < 64) (hkl : ks.length < 64) (nak : a ≠ kS)
    (hk : s.heap.get? kS = some (seqObj "list" ks.toArray e)) (ha : s.heap.get? a = some (seqObj "list" #[] e1))
    (q : P (.done (.ret .none)) { s with heap := (s.heap.update kS (Obj.mapSeq fun _ => (#[] : Array Value))).update a (Obj.mapSeq fun _ => List.toArray (p.toList.map fun i => vs.getD i Value.none)) }) :
    wpAny (model prog w) A (ksk_tail a false e1 (.ref kS) st) P E s := by
  have ha2 : (s.heap.update kS (Obj.mapSeq fun _ => (#[] : Array Value))).get? a = some (seqObj "list" #[] e1) := by rw [Heap.get?_update_ne _ _ _ _ nak]; exact ha
  have hsz : (List.toArray (p.toList.map fun i => vs.getD i Value.none)).size = vs.length := by simp [hz]
  unfold ksk_tail
  dsimp only
  rw [hs]
  refine wpAny_bind (listUpdate_at hk rfl ?_ (by rw [List.size_toArray, sizeLine_eq]; omega) (Nat.zero_le _))
  refine wpAny_bind (wpAny_letGo ?_)
  refine wpAny_bind (seqEpoch_at ha2 rfl ?_)
  refine wpAny_bind (listUpdate_at ha2 rfl ?_ (Nat.zero_le _) (by simp only [Bool.false_eq_true, if_false]; rw [hsz, sizeLine_eq]; omega))
  rw [hf]
  simp only [bne_self_eq_false, Bool.false_eq_true, if_false]
  exact wpAny_pure q
theorem keyed_end {P : PySem.Fin → Shared → Prop} (hl : ks.length = vs.length) (h64 : vs.length < 64) (nak : a ≠ kS) (hk : s.heap.get? kS = some (seqObj "list" ks.toArray e)) (h : KeyFin prog w A a kS e1 vs ks P s) :
    wpAny (model prog w) A (ksk_end a false vs.toArray e1 (.ref kS) ks.toArray) P E s := by
  obtain ⟨ha, κ, ans, hkind, hask, q⟩ := h
  have z0 : vs.toArray.size = vs.length := rfl
  unfold ksk_end
  dsimp only
  simp only [Bool.false_eq_true, if_false]
  by_cases h2 : vs.length < 2
  · rw [z0, if_pos h2, if_pos h2, pure_bind]
    rw [StateT.run_pure]
    refine wpAny_bind (wpAny_pure ?_)
    refine keyed_tail (p := List.toArray (List.range vs.length)) ?_ rfl (by simp) h64 (by omega) nak hk ha (q _ (by unfold Ord; simp) fun z => absurd h2 (Nat.not_lt.mpr z))
    show (ks.toArray.zip vs.toArray).map (·.2) = _
    rw [show (List.toArray (List.range vs.length)).toList = List.range vs.length from rfl, range_getD]
    apply Array.toList_inj.mp
    simp [List.map_snd_zip, hl]
  · have h2' : 2 ≤ vs.length := by omega
    rw [z0, if_neg h2, if_neg h2]
    refine wpAny_bind (wpAny_mono (hkind h2' (fun κ' s' => κ' = κ ∧ s' = s) ⟨rfl, rfl⟩) (fun κ' s' hs => ?_) fun _ _ z => z.elim)
    obtain ⟨rfl, rfl⟩ := hs
    have run := Asks.wp (R := Ord vs.length) (Q := fun p s'' => s'' = s' ∧ Ord vs.length p ∧ p = ansT ans (kas_sort vs.length)) (fun i j C hi hj => hask h2' i j C hi hj) (asks_sort (by omega)) ⟨rfl, Asks.ends (asks_sort (by omega)), rfl⟩
    refine wpAny_bind (wpAny_mono (PySem.W.kat_run (E := E) (ks := ks) (vs := vs) (Q := fun st s'' => ∃ p : Array Nat, p.size = vs.length ∧ arrOf st = p.map (kas_item (ks.toArray.zip vs.toArray)) ∧ failedOf st = none ∧ s'' = s' ∧ Ord vs.length p ∧ p = ansT ans (kas_sort vs.length)) hl h2' h64 (fun p st s'' b1 b2 b3 b4 => ⟨p, b1, b2, b3, b4⟩) run) ?_ fun _ _ z => z)
    rintro ⟨⟨⟩, st⟩ s'' ⟨p, hp, har, hf, rfl, or, ep⟩
    exact keyed_tail (PySem.W.kat_snds hl har) hf hp h64 (by omega) nak hk ha (q p or fun _ => ep)
structure KeyRun (prog : Program) (w : World) (A : Around) (a kS : Addr) (e1 : Nat) (f : Value) (vs : List Value) (P : PySem.Fin → Shared → Prop) (J : Nat → List Value → Nat → Shared → Prop) : Prop where
  store : ∀ i ks e s, J i ks e s → s.heap.get? kS = some (seqObj "list" ks.toArray e) ∧ ks.length = i
  turn : ∀ i x ks e s, vs[i]? = some x → J i ks e s → wpAny (model prog w) A (call f [x]) (fun k s' => s'.heap.get? kS = some (seqObj "list" ks.toArray e) ∧
    ∀ c, (s'.heap.update kS (Obj.mapSeq (·.push k))).get? kS = some (seqObj "list" (ks ++ [k]).toArray c) → J (i + 1) (ks ++ [k]) c { s' with heap := s'.heap.update kS (Obj.mapSeq (·.push k)) }) (fun _ _ => False) s
  fin : ∀ ks e s, J vs.length ks e s → KeyFin prog w A a kS e1 vs ks P s
theorem keyed_fold {P : PySem.Fin → Shared → Prop} {J : Nat → List Value → Nat → Shared → Prop} {body : Value → PUnit → Sem (ForInStep PUnit)} (R : KeyRun prog w A a kS e1 f vs P J)
    (hb : ∀ i x ks e (s : Shared), vs[i]? = some x → J i ks e s → wpAny (model prog w) A (body x ⟨⟩) (fun r s' => r = .yield ⟨⟩ ∧ ∃ k c, J (i + 1) (ks ++ [k]) c s') E s) :
    ∀ (r : List Value) (i : Nat) (ks : List Value) (e : Nat) (s : Shared), i ≤ vs.length → vs.drop i = r → J i ks e s → wpAny (model prog w) A (forIn r PUnit.unit body) (fun _ s' => ∃ ks e, J vs.length ks e s') E s
  | [], i, ks, e, s, hi, hr, h => by
    rw [List.forIn_nil]
    have e0 : i = vs.length := Nat.le_antisymm hi (List.drop_eq_nil_iff.mp hr)
    subst e0
    exact wpAny_pure ⟨ks, e, h⟩
  | x :: r, i, ks, e, s, hi, hr, h => by
    rw [List.forIn_cons]
    have hx : vs[i]? = some x := by
      have z := congrArg (fun l => l[0]?) hr
      simpa [List.getElem?_drop] using z
    have hr2 : vs.drop (i + 1) = r := by
      have z := congrArg (List.drop 1) hr
      simpa [List.drop_drop, Nat.add_comm] using z
    refine wpAny_bind (wpAny_mono (hb i x ks e s hx h) (fun q s' hq => ?_) fun _ _ z => z)
    obtain ⟨rfl, k, c, h2⟩ := hq
    exact keyed_fold R hb r (i + 1) (ks ++ [k]) c s' (List.getElem?_eq_some_iff.mp hx).1 hr2 h2
theorem keyed_rest {P : PySem.Fin → Shared → Prop} {J : Nat → List Value → Nat → Shared → Prop} (R : KeyRun prog w A a kS e1 f vs P J) (h64 : vs.length < 64) (nak : a ≠ kS) (h0 : J 0 [] 0 s) :
    wpAny (model prog w) A (ksk_rest a f false vs.toArray e1 (.ref kS)) P E s := by
  unfold ksk_rest
  refine wpAny_bind (wpAny_rule ?_)
  rw [List.forIn_toArray]
  refine wpAny_bind (wpAny_mono (keyed_fold R (fun i x ks e s' hx hJ => ?_) vs 0 [] 0 s (Nat.zero_le _) List.drop_zero h0) (fun _ s' hd => ?_) fun _ _ z => z)
  · have hi := (List.getElem?_eq_some_iff.mp hx).1
    have hl := (R.store i ks e s' hJ).2
    refine wpAny_bind (wpAny_attempt (wpAny_mono (R.turn i x ks e s' hx hJ) (fun k s'' hk => ?_) fun _ _ hF => hF.elim))
    obtain ⟨hk1, hk2⟩ := hk
    have pk : (List.toArray ks).push k = List.toArray (ks ++ [k]) := by rw [List.push_toArray]
    obtain ⟨c2, hc2⟩ : ∃ c2, (s''.heap.update kS (Obj.mapSeq (·.push k))).get? kS = some (seqObj "list" (List.toArray (ks ++ [k])) c2) := ⟨_, by rw [← pk]; exact get?_update_seq hk1 (·.push k)⟩
    try dsimp only
    refine wpAny_bind (listUpdate_at hk1 rfl ?_ (by rw [List.size_toArray, sizeLine_eq]; omega) (Nat.le_trans (Nat.le_of_eq (Array.size_push ..)) (by rw [List.size_toArray, sizeLine_eq]; omega)))
    exact wpAny_pure ⟨rfl, k, c2, hk2 c2 hc2⟩
  · obtain ⟨ks, e, hJ⟩ := hd
    obtain ⟨hk, hl⟩ := R.store _ _ _ _ hJ
    try dsimp only
    refine wpAny_bind (listItems_at hk rfl ?_)
    exact keyed_end hl h64 nak hk (R.fin ks e s' hJ)
theorem keyed_tree {n : Nat} {P : PySem.Fin → Shared → Prop} (hg : Keeps g s.heap) (ga : g.objs.size ≤ a) (ho : s.heap.get? a = some (seqObj "list" vs.toArray n)) (h64 : vs.length < 64)
    (h : ∀ kS e1 h', Keeps g h' → a < kS → h'.get? a = some (seqObj "list" #[] e1) → h'.get? kS = some (seqObj "list" #[] 0) → ∃ J, KeyRun prog w A a kS e1 f vs P J ∧ J 0 [] 0 { s with heap := h' }) :
    wpAny (model prog w) A (ksk_tree a f false) P E s := by
  have zl : vs.length ≤ sizeLine := Nat.le_trans (Nat.le_of_lt h64) (by decide)
  have k1 : Keeps g (s.heap.update a (Obj.mapSeq fun _ => (#[] : Array Value))) := hg.upd ga
  obtain ⟨c1, o1⟩ : ∃ c1, (s.heap.update a (Obj.mapSeq fun _ => (#[] : Array Value))).get? a = some (seqObj "list" #[] c1) := ⟨_, get?_update_seq ho _⟩
  have k3 := (k1.push (seqObj "tuple" vs.toArray 0)).push (seqObj "list" #[] 0)
  have o3 := Heap.get?_push_of_some (seqObj "list" #[] 0) (Heap.get?_push_of_some (seqObj "tuple" vs.toArray 0) o1)
  have lt : a < ((s.heap.update a (Obj.mapSeq fun _ => (#[] : Array Value))).push (seqObj "tuple" vs.toArray 0)).objs.size := Heap.lt_size (Heap.get?_push_of_some _ o1)
  obtain ⟨J, R, h0⟩ := h _ c1 _ k3 lt o3 (Heap.get?_push_size _ rfl)
  unfold ksk_tree
  refine wpAny_bind (listItems_at ho rfl (wpAny_bind (listUpdate_at ho rfl (wpAny_bind (seqEpoch_at o1 rfl (wpAny_bind (wpAny_newTuple (wpAny_bind (wpAny_newList (wpAny_holding ?_) (Nat.zero_le _))) zl)))) zl (Nat.zero_le _))))
  exact keyed_rest (s := { s with heap := ((s.heap.update a (Obj.mapSeq fun _ => (#[] : Array Value))).push (seqObj "tuple" vs.toArray 0)).push (seqObj "list" #[] 0) }) R h64 (Nat.ne_of_lt lt) h0
theorem sortedK_at {l fa : Addr} {Q : Value → Shared → Prop} (hl : s.heap.IsList l vs.toArray) (h64 : vs.length < 64)
    (h : ∀ D kS e1 h', D = s.heap.objs.size + 1 → Keeps s.heap h' → D < kS → h'.get? D = some (seqObj "list" #[] e1) → h'.get? kS = some (seqObj "list" #[] 0) → ∃ J, KeyRun prog w A.in1.in1 D kS e1 (.ref fa) vs (fun r s' => r = .done (.ret .none) → Q (.ref D) s') J ∧ J 0 [] 0 { s with heap := h' }) :
    wpAny (model prog w) A (call (.builtin "sorted") [.ref l] [(Str.ofString "key", .ref fa)]) Q E s := by
  have zl : vs.length ≤ sizeLine := Nat.le_trans (Nat.le_of_lt h64) (by decide)
  have k0 : Keeps s.heap s.heap := fun _ _ e => e
  have k2 := ((k0.push (seqObj "list" #[] 0)).upd (a := s.heap.objs.size) (f := Obj.mapSeq (· ++ vs.toArray)) (Nat.le_refl _)).push (seqObj "list" vs.toArray 0)
  have z2 : ((s.heap.push (seqObj "list" #[] 0)).update s.heap.objs.size (Obj.mapSeq (· ++ vs.toArray))).objs.size = s.heap.objs.size + 1 := by
    rw [Heap.size_update, size_push']
  have o2 : (((s.heap.push (seqObj "list" #[] 0)).update s.heap.objs.size (Obj.mapSeq (· ++ vs.toArray))).push (seqObj "list" vs.toArray 0)).get? (s.heap.objs.size + 1) = some (seqObj "list" vs.toArray 0) :=
    z2 ▸ Heap.get?_push_size _ rfl
  refine call_function_entry_kw kind_sorted plain_sorted entry_sorted (ksk_s1 _ _) ?_
  unfold Builtin.«sorted»
  refine wpAny_bind (m := checkCount _ _ _ _) (wpAny_pure (wpAny_bind (collect_list hl (wpAny_bind (wpAny_newList ?_ zl)) zl)))
  rw [show (({ s with heap := (s.heap.push (seqObj "list" #[] 0)).update s.heap.objs.size (Obj.mapSeq (· ++ vs.toArray)) } : Shared).heap.objs.size) = s.heap.objs.size + 1 from z2]
  refine wpAny_bind (wpAny_holding (wpAny_call_entry_kw slot_list_sort ⟨_, o2, rfl⟩ entry_list_sort ?body (ksk_l1 _ _)))
  case body =>
    show wpAny (model prog w) A.in1.in1 (Builtin.«list.sort» ⟨[.ref (s.heap.objs.size + 1)], [(Str.ofString "key", .ref fa)]⟩) _ _ _
    rw [ksk_t1]
    refine wpAny_mono (keyed_tree (s := { s with heap := ((s.heap.push (seqObj "list" #[] 0)).update s.heap.objs.size (Obj.mapSeq (· ++ vs.toArray))).push (seqObj "list" vs.toArray 0) }) (P := fun r s' => r = .done (.ret .none) ∧ (r = .done (.ret .none) → Q (.ref (s.heap.objs.size + 1)) s')) k2 (Nat.le_succ _) o2 h64 fun kS e1 h' kk lt ha hk => ?_) (fun r s' hq => ?_) fun _ _ z => z
    · obtain ⟨J, R, h0⟩ := h _ kS e1 h' rfl kk lt ha hk
      refine ⟨J, ⟨R.store, R.turn, fun ks e s' hJ => ?_⟩, h0⟩
      obtain ⟨f1, κ, ans, f2, f3, f4⟩ := R.fin ks e s' hJ
      exact ⟨f1, κ, ans, f2, f3, fun p or ep => ⟨rfl, f4 p or ep⟩⟩
    · obtain ⟨rfl, hq⟩ := hq
      exact ⟨_, rfl, wpAny_pure ⟨_, rfl, hq rfl⟩⟩
end
end L2
set_option Elab.async false
set_option linter.all false
set_option maxRecDepth 100000
set_option maxHeartbeats 4000000
namespace L2
open PySem PySem.Spec PyProof.Rows
open PySem.W (kla_fn kla_obj envX tabObj CodeHd KasT kas_sort kas_ask)
section
variable {prog : Program} {w : World} {A : Around} {E : Value → Shared → Prop} {s : Shared} {C : Bool → Shared → Prop}
end
open PySem.W (KatTups) in
section
variable {X : Cx} {pins : List (Addr × Obj)} {σ : St} {H : Hp} {s : Shared}
theorem Inv.track {D : Addr} {h' : Heap} {xs : List V} {its : List Value} {n : Nat} {t' : Nat} (I : Inv X pins σ H s) (hf : FpOk X pins H D) (k : ∀ b o, b ≠ D → s.heap.get? b = some o → h'.get? b = some o)
    (hz : xs.length ≤ sizeLine) (r : Vals xs its) (ho : h'.get? D = some { cls := .type "list", data := .seq its.toArray n }) : Inv X pins σ (upd H D (.lst xs)) { s with heap := h', toks := t' } := by
  obtain ⟨f0, f1, f2, f3, f4, f5⟩ := hf
  have nD : ∀ b u, H b = some u → b ≠ D := fun b u e z => by rw [z, f0] at e; cases e
  refine I.step (g' := s.gens) (d' := s.drawn) (ch := [D]) (fun b hb => ?_) (fun b o _ _ hc e _ => k b o (fun z => hc (by simp [z])) e) (fun b o _ _ hc e _ => ⟨o.slots, k b o (fun z => hc (by simp [z])) e⟩) (fun b o hc _ n => by rw [upd_ne fun z => hc (by simp [z])]; exact n)
    (fun b o hc e => ⟨o, k b o (fun z => hc (by simp [z])) e⟩) (fun b xs e => by rw [upd_ne (nD b _ e)]; exact e) (fun b o u e => by rw [upd_ne (nD b _ e)]; exact e) (fun b ps e => ⟨#[], by rw [upd_ne (nD b _ e), e]; simp⟩) (fun m hm => ?_) (fun b u e => ?_) I.bare
  · have e : b = D := by simpa using hb
    subst e
    exact ⟨f3, f1, f4, f5⟩
  · obtain ⟨o, es, ep, ho, r⟩ := hm
    exact ⟨o, es, ep, k _ o f1.symm ho, r⟩
  · by_cases z : b = D
    · subst z
      rw [upd_same] at e
      cases e
      exact ⟨hz, its, n, r, ho⟩
    · rw [upd_ne z] at e
      refine (I.hok b u e).stay (fun c v hc q => k c v ?_ q) (fun c q => by rw [upd_ne (nD c _ q)]; exact q) fun c xs q => by rw [upd_ne (nD c _ q)]; exact q
      rcases hc with rfl | hc
      · exact z
      · exact nD c _ hc
theorem cell_of {y : Str} {c : Addr} {i : Nat} {vy : V} (I : Inv X pins σ H s) (hN : X.N[i]? = some y) (hσ : σ[i]? = some (some vy)) (hk : X.env.scope.names.lookup y = some .cell) (hc : X.env.cells.lookup y = some c) : ∃ u, RelV vy u ∧ s.heap.IsCell c (some u) := by
  obtain ⟨m, hn, hl⟩ := I.loc
  obtain ⟨u, r, l⟩ := hl i y vy hN hσ (.inr (.inl hk))
  refine ⟨u, r, ?_⟩
  rcases l with ⟨l, _⟩ | ⟨_, c', e, z⟩
  · have l : X.env.scope.names.lookup y = some .local := l
    rw [hk] at l
    cases l
  · rw [hc] at e
    cases e
    exact z
end
end L2
set_option Elab.async false
set_option linter.all false
set_option maxRecDepth 100000
set_option maxHeartbeats 4000000
namespace L2
open PySem PySem.Spec PyProof.Rows
open PySem.W (kla_fn kla_obj envX tabObj CodeHd KasT kas_sort kas_ask)
abbrev KPT := Hp → List V → (Nat → Nat → Bool) → Prop
def KeyKP (X : Cx) (KP : KPT) : Prop := ∀ (pins : List (Addr × Obj)) (σ : St) (H : Hp) (s : Shared) (zs : List V) (ks : List Value) (ans : Nat → Nat → Bool), Inv X pins σ H s → Vals zs ks → KP H zs ans → ∃ κ : SortKind,
  (2 ≤ ks.length → ∀ Q' : SortKind → Shared → Prop, Q' κ s → wpAny (model X.prog X.w) X.A.in1.in1 (keyKind' ks.toArray) Q' (fun _ _ => False) s) ∧ (2 ≤ ks.length → ∀ i j C, i < ks.length → j < ks.length → C (ans i j) s → kas_ask X.prog X.w X.A.in1.in1 κ ks i j C s)
structure KeyR (KP : KPT) (te : TE) (vy : V) (c' : Addr) (q : Str) (vs : List V) (H : Hp) (Q : VK) (Pv : Nat → List V → Hp → Prop) : Prop where
  start : Pv 0 [] H
  code : ∀ i zs H', Pv i zs H' → H' c' = some (codeX c' q)
  len : ∀ i zs H', Pv i zs H' → zs.length = i
  turn : ∀ i zs H' v, vs[i]? = some v → Pv i zs H' → te [some v, some vy] H' fun k H'' => Pv (i + 1) (zs ++ [k]) H''
  fin : ∀ zs H', Pv vs.length zs H' → ∃ ans, KP H' zs ans ∧ ∀ D p, H' D = none → Ord vs.length p → (2 ≤ vs.length → p = ansT ans (kas_sort vs.length)) → Q (.ref D) (upd H' D (.lst (p.toList.map fun i => vs.getD i .non)))
section
variable {X : Cx} {pins : List (Addr × Obj)} {σ : St} {H : Hp} {s : Shared}
theorem vals_get? {xs : List V} {us : List Value} (r : Vals xs us) {i : Nat} {u : Value} (h : us[i]? = some u) : ∃ v, xs[i]? = some v ∧ RelV v u := by
  have hi : i < us.length := (List.getElem?_eq_some_iff.mp h).1
  have hx : i < xs.length := by rw [r.length]; exact hi
  refine ⟨xs[i], List.getElem?_eq_getElem hx, ?_⟩
  have z := vals_at r i hx
  have e1 : xs.getD i .non = xs[i] := by simp [hx]
  have e2 : us.getD i Value.none = u := by rw [List.getD_eq_getElem?_getD, h]; rfl
  rw [e1, e2] at z
  exact z
theorem vals_snoc : ∀ {xs : List V} {us : List Value} {v : V} {u : Value}, Vals xs us → RelV v u → Vals (xs ++ [v]) (us ++ [u])
  | _, _, _, _, .nil, r => .cons r .nil
  | _, _, _, _, .cons a t, r => .cons a (vals_snoc t r)
theorem sortK_run {KP : KPT} {k i0 : Nat} {x y ql : Str} {params : Arguments} {body : Expr} {sc : Scope} {fa c c' l : Addr} {pm ctv : Value} {vy : V} {vs : List V} {te : TE} {Q : VK} {Pv : Nat → List V → Hp → Prop} (I : Inv X pins σ H s) (hKP : KeyKP X KP) (hr : Room (k + 2) X.A) (S : LamScope x y sc)
    (hN : X.N[i0]? = some y) (hσ : σ[i0]? = some (some vy)) (hk : X.env.scope.names.lookup y = some .cell) (hcl : X.env.cells.lookup y = some c) (hfa : FpOk X pins H fa) (hfo : s.heap.get? fa = some (kla_obj "<lambda>" ql params body sc [(y, c)] pm c' ctv))
    (hbind : ∀ u, bindArgs (kla_fn "<lambda>" ql params body sc [(y, c)] pm (.ref c') ctv) ⟨[u], []⟩ = pure [(x, u)]) (hbody : ∀ (A : Around) (s : Shared) (H : Hp), A.units + 64 < cLine → PE (cxLam X.prog X.w X.K X.mg X.base x y ql sc fa (.ref c') c A X.stack s H) body te)
    (hl : H l = some (.lst vs)) (h64 : vs.length < 64) (R : KeyR KP te vy c' ql vs H Q Pv) : wpAny (model X.prog X.w) X.A (call (.builtin "sorted") [.ref l] [(Str.ofString "key", .ref fa)]) (EP X pins σ Q) X.xe s := by
  obtain ⟨its, rv, pl, hz⟩ := I.list (.of hl)
  have len : vs.length = its.length := rv.length
  have un := hr.un
  refine sortedK_at (vs := its) pl.isList (by omega) fun D kS e1 h' eD kk lt hD hkS => ?_
  have sD : s.heap.objs.size ≤ D := by omega
  have sK : s.heap.objs.size ≤ kS := by omega
  have fD := I.fpOk sD (I.hok.fresh sD)
  have fK := I.fpOk sK (I.hok.fresh sK)
  have faD : fa ≠ D := Nat.ne_of_lt (Nat.lt_of_lt_of_le (Heap.lt_size hfo) sD)
  have faK : fa ≠ kS := Nat.ne_of_lt (Nat.lt_of_lt_of_le (Heap.lt_size hfo) sK)
  have DK : D ≠ kS := Nat.ne_of_lt lt
  have nseq : ∀ (b : Array Value) (m : Nat) (v : Option Value), (seqObj "list" b m).data ≠ .cell v := fun b m v z => nomatch (show Data.seq b m = Data.cell v from z)
  have nfun : ∀ v, (kla_obj "<lambda>" ql params body sc [(y, c)] pm c' ctv).data ≠ .cell v := fun v z => nomatch (show Data.func _ = Data.cell v from z)
  -- the three objects that stand beside what is tracked
  have pin3 : ∀ {ks : List Value} {e : Nat} {H' : Hp} {s' : Shared}, Inv X pins σ H' s' → H' fa = none → H' D = none → H' kS = none → s'.heap.get? fa = some (kla_obj "<lambda>" ql params body sc [(y, c)] pm c' ctv) → s'.heap.get? D = some (seqObj "list" #[] e1) → s'.heap.get? kS = some (seqObj "list" ks.toArray e) →
      Inv X (pins ++ [(fa, kla_obj "<lambda>" ql params body sc [(y, c)] pm c' ctv), (D, seqObj "list" #[] e1), (kS, seqObj "list" ks.toArray e)]) σ H' s' := fun {ks e H' s'} J n1 n2 n3 o1 o2 o3 => by
    refine J.pins_of fun p hp => ?_
    rcases List.mem_append.mp hp with hp | hp
    · exact J.pin p (List.mem_append_right _ hp)
    · simp only [List.mem_cons, List.not_mem_nil, or_false] at hp
      rcases hp with rfl | rfl | rfl
      · exact ⟨o1, n1, hfa.2.1, hfa.2.2.1, nfun⟩
      · exact ⟨o2, n2, fD.2.1, fD.2.2.1, nseq _ _⟩
      · exact ⟨o3, n3, fK.2.1, fK.2.2.1, nseq _ _⟩
  have of3 : ∀ {ks : List Value} {e : Nat} {H' : Hp} {s' : Shared}, Inv X (pins ++ [(fa, kla_obj "<lambda>" ql params body sc [(y, c)] pm c' ctv), (D, seqObj "list" #[] e1), (kS, seqObj "list" ks.toArray e)]) σ H' s' →
      Inv X pins σ H' s' ∧ (H' fa = none ∧ H' D = none ∧ H' kS = none) ∧ s'.heap.get? fa = some (kla_obj "<lambda>" ql params body sc [(y, c)] pm c' ctv) ∧ s'.heap.get? D = some (seqObj "list" #[] e1) ∧ s'.heap.get? kS = some (seqObj "list" ks.toArray e) := fun {ks e H' s'} J => by
    have p1 := J.pin (fa, kla_obj "<lambda>" ql params body sc [(y, c)] pm c' ctv) (List.mem_append_right _ (List.mem_append_right _ (by simp)))
    have p2 := J.pin (D, seqObj "list" #[] e1) (List.mem_append_right _ (List.mem_append_right _ (by simp)))
    have p3 := J.pin (kS, seqObj "list" ks.toArray e) (List.mem_append_right _ (List.mem_append_right _ (by simp)))
    exact ⟨J.unpinned, ⟨p1.2.1, p2.2.1, p3.2.1⟩, p1.1, p2.1, p3.1⟩
  refine ⟨fun i ks e s' => ∃ H' zs, Inv X (pins ++ [(fa, kla_obj "<lambda>" ql params body sc [(y, c)] pm c' ctv), (D, seqObj "list" #[] e1), (kS, seqObj "list" ks.toArray e)]) σ H' s' ∧ Vals zs ks ∧ Pv i zs H', ⟨fun i ks e s' hJ => ?_, fun i u ks e s' hu hJ => ?_, fun ks e s' hJ => ?_⟩, H, [], ?_, .nil, R.start⟩
  · obtain ⟨H', zs, J, r, p⟩ := hJ
    exact ⟨(of3 J).2.2.2.2, by rw [← r.length]; exact R.len _ _ _ p⟩
  · obtain ⟨H', zs, J, r, p⟩ := hJ
    obtain ⟨J0, ⟨n1, n2, n3⟩, o1, o2, o3⟩ := of3 J
    obtain ⟨v, hv, ru⟩ := vals_get? rv hu
    obtain ⟨uy, ry, hcell⟩ := cell_of J hN hσ hk hcl
    have hcd : s'.heap.CodeRec (.ref c') ql := (J.hok c' _ (R.code _ _ _ p)).1
    refine wpAny_mono (lam_run J J.env0.in1.in1 (hr.in1.in1) S o1 hcd (hbind u) ru ry hcell (J.freeC _ _ hcl) (hbody _ s' H' (by show X.A.units + 1 + 1 + 64 < cLine; omega)) (R.turn i zs H' v hv p)) (fun u' s'' hs => ?_) fun _ _ z => z
    obtain ⟨kv, H'', J', rk, p'⟩ := hs
    obtain ⟨J1, ⟨m1, m2, m3⟩, q1, q2, q3⟩ := of3 J'
    refine ⟨q3, fun c2 hc2 => ⟨H'', zs ++ [kv], ?_, vals_snoc r rk, p'⟩⟩
    have J2 : Inv X pins σ H'' { s'' with heap := s''.heap.update kS (Obj.mapSeq (·.push u')), toks := s''.toks } := J1.turned (it := kS) (fun b o hb e => by rw [Heap.get?_update_ne _ _ _ _ hb]; exact e) m3 fK.2.1 fK.2.2.2.1 fK.2.2.2.2.1 fK.2.2.2.2.2
    exact pin3 J2 m1 m2 m3 (by show (s''.heap.update kS _).get? fa = _; rw [Heap.get?_update_ne _ _ _ _ faK]; exact q1) (by show (s''.heap.update kS _).get? D = _; rw [Heap.get?_update_ne _ _ _ _ DK]; exact q2) hc2
  · obtain ⟨H', zs, J, r, p⟩ := hJ
    obtain ⟨J0, ⟨n1, n2, n3⟩, o1, o2, o3⟩ := of3 J
    rw [← len] at p
    obtain ⟨ans, ok, q⟩ := R.fin zs H' p
    have zl := R.len _ _ _ p
    have kl : ks.length = its.length := by rw [← r.length, zl, len]
    obtain ⟨κ, k1, k2⟩ := hKP _ _ _ _ _ _ _ J0 r ok
    rw [kl] at k1 k2
    refine ⟨o2, κ, ans, k1, k2, fun pm' or ep _ => ?_⟩
    · have J2 : Inv X pins σ H' { s' with heap := s'.heap.update kS (Obj.mapSeq fun _ => (#[] : Array Value)), toks := s'.toks } := J0.turned (it := kS) (fun b o hb e => by rw [Heap.get?_update_ne _ _ _ _ hb]; exact e) n3 fK.2.1 fK.2.2.2.1 fK.2.2.2.2.1 fK.2.2.2.2.2
      have o4 : (s'.heap.update kS (Obj.mapSeq fun _ => (#[] : Array Value))).get? D = some (seqObj "list" #[] e1) := by rw [Heap.get?_update_ne _ _ _ _ DK]; exact o2
      rw [← len] at or ep
      have lo : pm'.toList.length = vs.length := by rw [or.length_eq, List.length_range]
      obtain ⟨c5, o5⟩ : ∃ c5, ((s'.heap.update kS (Obj.mapSeq fun _ => (#[] : Array Value))).update D (Obj.mapSeq fun _ => List.toArray (pm'.toList.map fun i => its.getD i Value.none))).get? D = some (seqObj "list" (List.toArray (pm'.toList.map fun i => its.getD i Value.none)) c5) := ⟨_, get?_update_seq o4 _⟩
      refine ⟨.ref D, upd H' D (.lst (pm'.toList.map fun i => vs.getD i .non)), J2.track (t' := s'.toks) ⟨n2, fD.2⟩ (fun b o hb e => by rw [Heap.get?_update_ne _ _ _ _ hb]; exact e) ?_ (vals_map _ fun i hi => vals_at rv i ?_) o5, rfl, q D pm' n2 or ep⟩
      · rw [List.length_map, lo]
        exact Nat.le_trans (Nat.le_of_lt h64) (by decide)
      · exact List.mem_range.mp (or.mem_iff.mp hi)
  · have J0 : Inv X pins σ H { s with heap := h', toks := s.toks } := I.kept kk
    exact pin3 J0 hfa.1 (I.hok.fresh sD) (I.hok.fresh sK) (kk _ _ hfo) hD hkS
end
end L2
set_option Elab.async false
set_option linter.all false
set_option maxRecDepth 100000
set_option maxHeartbeats 4000000
namespace L2
open PySem PySem.Spec PyProof.Rows
open PySem.W (kla_fn kla_obj envX tabObj CodeHd KasT kas_sort kas_ask)
section
variable {X : Cx} {p pos lpos kpos : Pos} {e body : Expr} {params : Arguments} {sc : Scope} {x y : Str} {c c0 P : Addr} {i0 k : Nat} {te tl : TE}
def tSortK (KP : KPT) (P : Addr) (lpos : Pos) (ql : Str) (i0 : Nat) (te tl : TE) : TE := fun σ H Q => tCons tl tNil σ H fun xs H1 => ∃ l vs vy, xs = [.ref l] ∧ H1 l = some (.lst vs) ∧ vs.length < 64 ∧ σ[i0]? = some (some vy) ∧ LamTab H1 P lpos ql ∧
  ∀ c' H2, SameT P H1 H2 → LamTab H2 P lpos ql → H2 c' = some (codeX c' ql) → ∃ Pv, KeyR KP te vy c' ql vs H2 Q Pv
theorem pe_sortK {KP : KPT} (hKP : KeyKP X KP) (hr : Room (k + 2) X.A) (hg : Gl X "sorted") (hm : X.mg "sorted" = none) (ha : PA X [e] (tCons tl tNil)) (S : LamScope x y sc) (hN : X.N[i0]? = some y) (hk : X.env.scope.names.lookup y = some .cell) (hcl : X.env.cells.lookup y = some c)
    (hclos : closureFor sc X.env = pure [(y, c)]) (hdef : defaultsOf params X.env = ([], [])) (hcode : X.env.code = .ref c0) (C : CodeHd X.base c0 P) (hB : X.base.BuiltinsAt X.mg P)
    (hbind : ∀ (pm cd ctv u : Value), bindArgs (kla_fn "<lambda>" (X.env.qual ++ "<lambda>") params body sc [(y, c)] pm cd ctv) ⟨[u], []⟩ = pure [(x, u)])
    (hbody : ∀ (fa c' : Addr) (A : Around) (s : Shared) (H : Hp), A.units + 64 < cLine → PE (cxLam X.prog X.w X.K X.mg X.base x y (X.env.qual ++ "<lambda>") sc fa (.ref c') c A X.stack s H) body te)
    (he : backTo pos (starEach [e] X.env) = (false, eval e X.env) :: backTo pos (starEach [] X.env) := by rfl) (hpl : (backTo pos (starEach [e] X.env)).any (·.1) = false := by rfl) :
    PE X (.Call (.Name "sorted" p) [e] [⟨some "key", .Lambda params body sc lpos, kpos⟩] pos) (tSortK KP P lpos (X.env.qual ++ "<lambda>") i0 te tl) := by
  intro pins s σ H Q I h
  refine wpAny_Call_Name_kw (ld_blt I hg hm bt_sorted ?_)
  refine callWith_kw (thn (ha pos pins s σ H _ I h) fun us s1 ⟨vs', H1, I1, r1, q1⟩ => ?_) he hpl rfl rfl
  obtain ⟨l, vs, vy, ev, hl, h64, hσ, ht, q⟩ := q1
  subst ev
  obtain ⟨u, rfl, ru⟩ := vals1 r1
  cases ru
  refine kws_cons (lam_make (C := C) I1 hcode hB hclos hdef ht fun fa c' ctv H2 s2 I2 st lt hfo hc' ffa => kws_nil ?_)
  obtain ⟨Pv, R⟩ := q c' H2 st lt hc'
  have nl : l ≠ P := fun z => by
    obtain ⟨ps, hP, _⟩ := ht
    rw [z, hP] at hl
    cases hl
  exact sortK_run I2 hKP hr S hN hσ hk hcl ffa hfo (fun u => hbind _ _ _ u) (hbody fa c') (st l _ nl hl) h64 R
end
end L2
set_option Elab.async false
set_option linter.all false
set_option maxRecDepth 100000
set_option maxHeartbeats 4000000
namespace L2
open PySem PySem.Spec PyProof.Rows
section
variable {κ : Type} [DecidableEq κ]
def valV (kvs : List (κ × V)) (k : κ) : Option V := (kvs.find? fun kv => decide (kv.1 = k)).map (·.2)
def putK (kvs : List (κ × V)) (k : κ) (v : V) : List (κ × V) :=
  if (kvs.any fun kv => decide (kv.1 = k)) = true then kvs.map (fun kv => if kv.1 = k then (kv.1, v) else kv) else kvs ++ [(k, v)]
def dropK (kvs : List (κ × V)) (k : κ) : List (κ × V) := kvs.filter fun kv => decide (kv.1 ≠ k)
theorem valV_pos {p : κ × V} {r : List (κ × V)} {k : κ} (e : p.1 = k) : valV (p :: r) k = some p.2 := by simp [valV, List.find?_cons, e]
theorem valV_neg {p : κ × V} {r : List (κ × V)} {k : κ} (e : ¬ p.1 = k) : valV (p :: r) k = valV r k := by simp [valV, List.find?_cons, e]
theorem valV_any (k : κ) : ∀ kvs : List (κ × V), (kvs.any fun kv => decide (kv.1 = k)) = (valV kvs k).isSome
  | [] => rfl
  | p :: r => by
    rw [List.any_cons]
    by_cases e : p.1 = k
    · simp only [valV_pos e, decide_eq_true e, Bool.true_or, Option.isSome_some]
    · rw [valV_neg e, decide_eq_false e, Bool.false_or]; exact valV_any k r
theorem valV_map (k j : κ) (y : V) : ∀ kvs : List (κ × V), valV (kvs.map fun kv => if kv.1 = k then (kv.1, y) else kv) j = (valV kvs j).map fun x => if j = k then y else x
  | [] => rfl
  | p :: r => by
    have ih := valV_map k j y r
    rw [List.map_cons]
    by_cases h : p.1 = k
    · rw [if_pos h]
      by_cases e : p.1 = j
      · rw [valV_pos (p := (p.1, y)) e, valV_pos e, Option.map_some, if_pos (e.symm.trans h)]
      · rw [valV_neg (p := (p.1, y)) e, valV_neg e, ih]
    · rw [if_neg h]
      by_cases e : p.1 = j
      · rw [valV_pos (p := p) e, valV_pos e, Option.map_some, if_neg (fun z => h (e.trans z))]
      · rw [valV_neg (p := p) e, valV_neg e, ih]
theorem valV_snoc (k j : κ) (y : V) : ∀ kvs : List (κ × V), valV kvs k = none → valV (kvs ++ [(k, y)]) j = if j = k then some y else valV kvs j
  | [], _ => by
    by_cases e : k = j
    · rw [if_pos e.symm]; exact valV_pos (p := (k, y)) e
    · rw [if_neg (fun z => e z.symm)]; exact valV_neg (p := (k, y)) e
  | p :: r, hn => by
    rw [List.cons_append]
    have hk : ¬ p.1 = k := fun z => by rw [valV_pos z] at hn; cases hn
    rw [valV_neg hk] at hn
    have ih := valV_snoc k j y r hn
    by_cases e : p.1 = j
    · rw [valV_pos e, valV_pos e, if_neg (fun z => hk (e.trans z))]
    · rw [valV_neg e, valV_neg e, ih]
theorem valV_put (kvs : List (κ × V)) (k j : κ) (y : V) : valV (putK kvs k y) j = if j = k then some y else valV kvs j := by
  unfold putK
  by_cases a : (kvs.any fun kv => decide (kv.1 = k)) = true
  · rw [if_pos a, valV_map]
    rw [valV_any] at a
    by_cases e : j = k
    · obtain ⟨x, hx⟩ := Option.isSome_iff_exists.mp a
      rw [if_pos e, e, hx, Option.map_some, if_pos rfl]
    · rw [if_neg e]
      cases valV kvs j with
      | none => rfl
      | some x => rw [Option.map_some, if_neg e]
  · rw [if_neg a]
    refine valV_snoc k j y kvs ?_
    rw [valV_any] at a
    cases q : valV kvs k with
    | none => rfl
    | some x => rw [q] at a; exact (a rfl).elim
theorem length_putK (kvs : List (κ × V)) (k : κ) (v : V) : (putK kvs k v).length ≤ kvs.length + 1 := by
  unfold putK
  split
  · rw [List.length_map]; omega
  · rw [List.length_append, List.length_cons, List.length_nil]; omega
theorem RelO.isSome_eq {o : Option V} {u : Option Value} (r : RelO o u) : o.isSome = u.isSome := by
  cases o with
  | none => cases u with
    | none => rfl
    | some _ => exact (show False from r).elim
  | some _ => cases u with
    | none => exact (show False from r).elim
    | some _ => rfl
theorem RelO.getD {o : Option V} {u : Option Value} {d : V} {d' : Value} (r : RelO o u) (rd : RelV d d') : RelV (o.getD d) (u.getD d') := by
  cases o with
  | none => cases u with
    | none => exact rd
    | some _ => exact (show False from r).elim
  | some _ => cases u with
    | none => exact (show False from r).elim
    | some _ => exact r
theorem KV.val {kvs : List (κ × V)} {vs : List (κ × Value)} (r : KV kvs vs) (k : κ) : RelO (valV kvs k) (valueAt vs k) := by
  unfold KV at r
  induction r with
  | nil => exact True.intro
  | @cons p q ps qs h t ih =>
    obtain ⟨h1, h2⟩ := h
    by_cases e : p.1 = k
    · have e' : q.1 = k := h1.symm.trans e
      have b : valueAt (q :: qs) k = some q.2 := by simp [valueAt, List.find?_cons, e']
      rw [valV_pos e, b]; exact h2
    · have e' : ¬ q.1 = k := fun z => e (h1.trans z)
      have b : valueAt (q :: qs) k = valueAt qs k := by simp [valueAt, List.find?_cons, e']
      rw [valV_neg e, b]; exact ih
theorem KV.any {kvs : List (κ × V)} {vs : List (κ × Value)} (r : KV kvs vs) (k : κ) : (kvs.any fun kv => decide (kv.1 = k)) = vs.any fun kv => decide (kv.1 = k) := by
  unfold KV at r
  induction r with
  | nil => rfl
  | cons h t ih => rw [List.any_cons, List.any_cons, ih, h.1]
theorem KV.repl {kvs : List (κ × V)} {vs : List (κ × Value)} (r : KV kvs vs) (k : κ) {y : V} {u : Value} (ry : RelV y u) :
    KV (kvs.map fun kv => if kv.1 = k then (kv.1, y) else kv) (vs.map fun kv => if kv.1 = k then (kv.1, u) else kv) := by
  unfold KV at r ⊢
  induction r with
  | nil => exact .nil
  | @cons p q ps qs h t ih =>
    rw [List.map_cons, List.map_cons]
    refine .cons ?_ ih
    obtain ⟨h1, h2⟩ := h
    by_cases e : p.1 = k
    · rw [if_pos e, if_pos (h1.symm.trans e)]; exact ⟨h1, ry⟩
    · rw [if_neg e, if_neg (fun z => e (h1.trans z))]; exact ⟨h1, h2⟩
theorem KV.put {kvs : List (κ × V)} {vs : List (κ × Value)} (r : KV kvs vs) (k : κ) {y : V} {u : Value} (ry : RelV y u) : KV (putK kvs k y) (stored vs k u) := by
  unfold putK stored
  rw [r.any k]
  by_cases e : (vs.any fun kv => decide (kv.1 = k)) = true
  · rw [if_pos e, if_pos e]; exact r.repl k ry
  · rw [if_neg e, if_neg e]; exact Paired.snoc r ⟨rfl, ry⟩
theorem KV.drop {kvs : List (κ × V)} {vs : List (κ × Value)} (r : KV kvs vs) (k : κ) : KV (dropK kvs k) (without vs k) := by
  unfold KV at r ⊢
  unfold dropK without
  induction r with
  | nil => exact .nil
  | @cons p q ps qs h t ih =>
    obtain ⟨h1, h2⟩ := h
    rw [List.filter_cons, List.filter_cons]
    by_cases e : p.1 = k
    · have a : ¬ decide (p.1 ≠ k) = true := by simp [e]
      have b : ¬ decide (q.1 ≠ k) = true := by simp [h1.symm.trans e]
      rw [if_neg a, if_neg b]; exact ih
    · have e' : ¬ q.1 = k := fun z => e (h1.trans z)
      have a : decide (p.1 ≠ k) = true := by simp [e]
      have b : decide (q.1 ≠ k) = true := by simp [e']
      rw [if_pos a, if_pos b]; exact .cons ⟨h1, h2⟩ ih
theorem KV.keys {kvs : List (κ × V)} {vs : List (κ × Value)} (r : KV kvs vs) : kvs.map (·.1) = vs.map (·.1) := by
  unfold KV at r
  induction r with
  | nil => rfl
  | cons h t ih => rw [List.map_cons, List.map_cons, ih, h.1]
theorem KV.length {kvs : List (κ × V)} {vs : List (κ × Value)} (r : KV kvs vs) : kvs.length = vs.length := Paired.length r
end
theorem kV_is {P : Program} {w : World} {k : Key} {u : Value} (r : RelV (kV k) u) : (mixKind P w).is k u = true := by
  cases k with
  | inl i => obtain ⟨t, e⟩ := (show ∃ t, u = Value.int i t from r); subst e; exact mixKind_int P w i t
  | inr x => obtain ⟨t, e⟩ := (show ∃ t, u = Value.str x t from r); subst e; exact mixKind_str P w x t
theorem items_are {P : Program} {w : World} : ∀ {ks : List Key} {us : List Value}, Vals (ks.map kV) us → ItemsAre (mixKind P w) ks us
  | [], _, r => by rw [List.map_nil] at r; cases r; exact .nil
  | k :: ks, _, r => by
    rw [List.map_cons] at r
    cases r with
    | cons h t => exact .cons (kV_is h) (items_are t)
abbrev KT (H : Hp) : List (List Key × V) → List (List Key × Addr × Value) → Prop := Paired fun p q => p.1 = q.1 ∧ H q.2.1 = some (.tup (p.1.map kV)) ∧ RelV p.2 q.2.2
theorem KT.val {H : Hp} {kvs : List (List Key × V)} {xs : List (List Key × Addr × Value)} (r : KT H kvs xs) (k : List Key) : RelO (valV kvs k) ((atKey xs k).map (·.2)) := by
  induction r with
  | nil => exact True.intro
  | @cons p q ps qs h t ih =>
    obtain ⟨h1, _, h2⟩ := h
    by_cases e : p.1 = k
    · have e' : q.1 = k := h1.symm.trans e
      have b : atKey (q :: qs) k = some q.2 := by simp [atKey, List.find?_cons, e']
      rw [valV_pos e, b]; exact h2
    · have e' : ¬ q.1 = k := fun z => e (h1.trans z)
      have b : atKey (q :: qs) k = atKey qs k := by simp [atKey, List.find?_cons, e']
      rw [valV_neg e, b]; exact ih
theorem KT.repl {H : Hp} {kvs : List (List Key × V)} {xs : List (List Key × Addr × Value)} (r : KT H kvs xs) (k : List Key) {y : V} {u : Value} (ry : RelV y u) :
    KT H (kvs.map fun kv => if kv.1 = k then (kv.1, y) else kv) (xs.map (putAt k u)) := by
  induction r with
  | nil => exact .nil
  | @cons p q ps qs h t ih =>
    rw [List.map_cons, List.map_cons]
    refine .cons ?_ ih
    obtain ⟨h1, h2, h3⟩ := h
    unfold putAt
    by_cases e : p.1 = k
    · rw [if_pos e, if_pos (h1.symm.trans e)]; exact ⟨h1, h2, ry⟩
    · rw [if_neg e, if_neg (fun z => e (h1.trans z))]; exact ⟨h1, h2, h3⟩
theorem KT.put {H : Hp} {kvs : List (List Key × V)} {xs : List (List Key × Addr × Value)} (r : KT H kvs xs) (k : List Key) {b : Addr} {y : V} {u : Value} (hb : H b = some (.tup (k.map kV))) (ry : RelV y u) :
    KT H (putK kvs k y) (storedH xs k b u) := by
  have e : (kvs.any fun kv => decide (kv.1 = k)) = (atKey xs k).isSome := by
    rw [valV_any, (r.val k).isSome_eq, Option.isSome_map]
  unfold putK storedH
  rw [e]
  by_cases q : (atKey xs k).isSome = true
  · rw [if_pos q, if_pos q]; exact r.repl k ry
  · rw [if_neg q, if_neg q]; exact Paired.snoc r ⟨rfl, hb, ry⟩
theorem KT.keeps {H H' : Hp} {kvs : List (List Key × V)} {xs : List (List Key × Addr × Value)} (r : KT H kvs xs) (ht : ∀ b ys, H b = some (.tup ys) → H' b = some (.tup ys)) : KT H' kvs xs :=
  Paired.mapP r fun _ _ z => ⟨z.1, ht _ _ z.2.1, z.2.2⟩
section
variable {P : Program} {w : World} {H : Hp} {h : Heap} {a : Addr}
theorem rd_of {u : HO} (ok : HOk P w H h) (e : Rd H a u) : ObjOk P w H h a u := e.ok ok
theorem dk_rd {kvs : List (Key × V)} (ok : HOk P w H h) (e : Rd H a (.dK kvs)) : kvs.length ≤ sizeLine ∧ (a == sysModules) = false ∧ ∃ vs, KV kvs vs ∧ h.DictOf (mixKind P w) a vs :=
  show ObjOk P w H h a (.dK kvs) from rd_of ok e
theorem dk_of {kvs : List (Key × V)} (ok : HOk P w H h) (e : H a = some (.dK kvs)) : kvs.length ≤ sizeLine ∧ (a == sysModules) = false ∧ ∃ vs, KV kvs vs ∧ h.DictOf (mixKind P w) a vs := dk_rd ok (.inl e)
theorem key_of {ks : List Key} (ok : HOk P w H h) (e : H a = some (.tup (ks.map kV))) : (tupleKind (mixKind P w)).is h ks a := by
  obtain ⟨_, its, r, o, h1, h2, n, h3⟩ := (show ObjOk P w H h a (.tup (ks.map kV)) from ok a _ e)
  exact ⟨o, its.toArray, n, h1, h2, h3, by simpa using items_are r⟩
theorem dt_rd {kvs : List (List Key × V)} (ok : HOk P w H h) (e : Rd H a (.dT kvs)) : kvs.length ≤ sizeLine ∧ (a == sysModules) = false ∧
    ∃ xs, KT H kvs xs ∧ h.DictOfH (tupleKind (mixKind P w)) a xs := by
  obtain ⟨z, y, xs, r, o, es, ep, h1, h2, h3, h4, h5⟩ := (show ObjOk P w H h a (.dT kvs) from rd_of ok e)
  refine ⟨z, y, xs, r, o, es, ep, h1, h2, h3, h4, fun x hx => ?_, h5⟩
  have all : ∀ {l : List (List Key × V)} {m : List (List Key × Addr × Value)}, KT H l m → ∀ x ∈ m, (tupleKind (mixKind P w)).is h x.1 x.2.1 := by
    intro l m q
    induction q with
    | nil => intro x hx; exact nomatch hx
    | @cons p q ps qs hq t ih =>
      intro x hx
      rcases List.mem_cons.mp hx with e | hx
      · subst e
        exact key_of ok (by rw [← hq.1]; exact hq.2.1)
      · exact ih x hx
  exact all r x hx
theorem dt_of {kvs : List (List Key × V)} (ok : HOk P w H h) (e : H a = some (.dT kvs)) : kvs.length ≤ sizeLine ∧ (a == sysModules) = false ∧
    ∃ xs, KT H kvs xs ∧ h.DictOfH (tupleKind (mixKind P w)) a xs := dt_rd ok (.inl e)
end
def DGet (H : Hp) (a : Addr) (y : V) (r : Option V) : Prop :=
  (∃ kvs k, Rd H a (.dK kvs) ∧ y = kV k ∧ r = valV kvs k) ∨ ∃ kvs k b, Rd H a (.dT kvs) ∧ y = .ref b ∧ H b = some (.tup (k.map kV)) ∧ r = valV kvs k
def DPut (H : Hp) (a : Addr) (y v : V) (H' : Hp) : Prop :=
  (∃ kvs k, H a = some (.dK kvs) ∧ y = kV k ∧ kvs.length < sizeLine ∧ H' = upd H a (.dK (putK kvs k v))) ∨
  ∃ kvs k b, H a = some (.dT kvs) ∧ y = .ref b ∧ H b = some (.tup (k.map kV)) ∧ kvs.length < sizeLine ∧ H' = upd H a (.dT (putK kvs k v))
theorem DGet.k {H : Hp} {a : Addr} {kvs : List (Key × V)} {k : Key} (e : H a = some (.dK kvs)) : DGet H a (kV k) (valV kvs k) := .inl ⟨kvs, k, .inl e, rfl, rfl⟩
theorem DGet.t {H : Hp} {a b : Addr} {kvs : List (List Key × V)} {k : List Key} (e : H a = some (.dT kvs)) (eb : H b = some (.tup (k.map kV))) : DGet H a (.ref b) (valV kvs k) := .inr ⟨kvs, k, b, .inl e, rfl, eb, rfl⟩
theorem DPut.k {H : Hp} {a : Addr} {kvs : List (Key × V)} {k : Key} {v : V} (e : H a = some (.dK kvs)) (hl : kvs.length < sizeLine) : DPut H a (kV k) v (upd H a (.dK (putK kvs k v))) := .inl ⟨kvs, k, e, rfl, hl, rfl⟩
theorem DPut.t {H : Hp} {a b : Addr} {kvs : List (List Key × V)} {k : List Key} {v : V} (e : H a = some (.dT kvs)) (eb : H b = some (.tup (k.map kV))) (hl : kvs.length < sizeLine) :
    DPut H a (.ref b) v (upd H a (.dT (putK kvs k v))) := .inr ⟨kvs, k, b, e, rfl, eb, hl, rfl⟩
section
variable {X : Cx} {pins : List (Addr × Obj)} {σ : St} {H : Hp} {s : Shared} {a : Addr} {y v : V} {u r : Value} {o : Option V} {A : Around} {E : Value → Shared → Prop}
theorem Inv.big (I : Inv X pins σ H s) : sysModules < s.heap.objs.size := by
  have h : mainGlobals < s.heap.objs.size := (I.mod.glob.keeps I.bk).lt
  exact Nat.lt_trans (by decide) h
theorem d_getItem {Q : Value → Shared → Prop} (hu : A.units + 1 < cLine) (I : Inv X pins σ H s) (g : DGet H a y (some v)) (ry : RelV y u) (h : ∀ w' s', Inv X pins σ H s' → RelV v w' → Q w' s') :
    wpAny (model X.prog X.w) A (getItem (.ref a) u) Q E s := by
  rcases g with ⟨kvs, k, e, ey, l⟩ | ⟨kvs, k, b, e, ey, eb, l⟩
  · subst ey
    obtain ⟨z, hd, vs, rel, dd⟩ := dk_rd I.hok e
    obtain ⟨w', hw, rw'⟩ := RelO.some_of (v := v) (o := valueAt vs k) (by rw [l]; exact rel.val k)
    exact wpAny_getItem_of (kV_is ry) dd.mapOf hw (h w' _ (I.tok _) rw')
  · subst ey
    cases (show u = Value.ref b from ry)
    obtain ⟨z, hd, xs, rel, dd⟩ := dt_rd I.hok e
    obtain ⟨w', hw, rw'⟩ := RelO.some_of (v := v) (o := (atKey xs k).map (·.2)) (by rw [l]; exact rel.val k)
    obtain ⟨p, hp, hp2⟩ := Option.map_eq_some_iff.mp hw
    refine wpAny_getItem_heap (tupleKind_room_in1 hu) (key_of I.hok eb) dd hp ?_
    rw [hp2]
    exact h w' _ (I.tok _) rw'
theorem d_in {Q : Value → Shared → Prop} (hu : A.units + 1 < cLine) (I : Inv X pins σ H s) (g : DGet H a y o) (ry : RelV y u) (h : ∀ s', Inv X pins σ H s' → Q (.bool o.isSome) s') :
    wpAny (model X.prog X.w) A (compareOp .In u (.ref a)) Q E s := by
  rcases g with ⟨kvs, k, e, ey, l⟩ | ⟨kvs, k, b, e, ey, eb, l⟩
  · subst ey
    obtain ⟨z, hd, vs, rel, dd⟩ := dk_rd I.hok e
    refine wpAny_in_of (kV_is ry) hd dd.mapOf ?_
    rw [← (rel.val k).isSome_eq, ← l]
    exact h _ (I.tok _)
  · subst ey
    cases (show u = Value.ref b from ry)
    obtain ⟨z, hd, xs, rel, dd⟩ := dt_rd I.hok e
    refine wpAny_in_heap (tupleKind_room_in1 hu) (key_of I.hok eb) hd dd ?_
    have q := (rel.val k).isSome_eq
    rw [Option.isSome_map] at q
    rw [← q, ← l]
    exact h _ (I.tok _)
theorem d_notIn {Q : Value → Shared → Prop} (hu : A.units + 1 < cLine) (I : Inv X pins σ H s) (g : DGet H a y o) (ry : RelV y u) (h : ∀ s', Inv X pins σ H s' → Q (.bool (!o.isSome)) s') :
    wpAny (model X.prog X.w) A (compareOp .NotIn u (.ref a)) Q E s := by
  rcases g with ⟨kvs, k, e, ey, l⟩ | ⟨kvs, k, b, e, ey, eb, l⟩
  · subst ey
    obtain ⟨z, hd, vs, rel, dd⟩ := dk_rd I.hok e
    refine wpAny_notIn_of (kV_is ry) hd dd.mapOf ?_
    rw [← (rel.val k).isSome_eq, ← l]
    exact h _ (I.tok _)
  · subst ey
    cases (show u = Value.ref b from ry)
    obtain ⟨z, hd, xs, rel, dd⟩ := dt_rd I.hok e
    refine wpAny_notIn_heap (tupleKind_room_in1 hu) (key_of I.hok eb) hd dd ?_
    have q := (rel.val k).isSome_eq
    rw [Option.isSome_map] at q
    rw [← q, ← l]
    exact h _ (I.tok _)
theorem d_write {h' : Heap} {t' : Nat} {ob : HO} (I : Inv X pins σ H s) (mu : Mut (H a)) (hs : Heap.SameBut a s.heap h') (he : ∃ q, h'.get? a = some q) (new : ObjOk X.prog X.w (upd H a ob) h' a ob) :
    Inv X pins σ (upd H a ob) { s with heap := h', toks := t' } :=
  I.write (x := a) (e := a) mu (.inl rfl) (fun b q hb z => (hs.2 b hb).trans z) he new
theorem dk_new {P : Program} {w : World} {H' : Hp} {h' : Heap} {kvs : List (Key × V)} {vs : List (Key × Value)} (z : kvs.length ≤ sizeLine) (hd : (a == sysModules) = false) (rel : KV kvs vs) (dd : h'.DictOf (mixKind P w) a vs) :
    ObjOk P w H' h' a (.dK kvs) := ⟨z, hd, vs, rel, dd⟩
theorem d_setItem {H' : Hp} {Q : Unit → Shared → Prop} (hu : A.units + 1 < cLine) (I : Inv X pins σ H s) (g : DPut H a y v H') (ry : RelV y u) (rv : RelV v r) (h : ∀ s', Inv X pins σ H' s' → Q () s') :
    wpAny (model X.prog X.w) A (setItem (.ref a) u r) Q E s := by
  rcases g with ⟨kvs, k, e, ey, l, eH⟩ | ⟨kvs, k, b, e, ey, eb, l, eH⟩
  · subst ey eH
    obtain ⟨z, hd, vs, rel, dd⟩ := dk_of I.hok e
    have hz : vs.length ≤ sizeLine := by rw [← rel.length]; exact z
    have hl : (putK kvs k v).length ≤ sizeLine := by have := length_putK kvs k v; omega
    refine wpAny_setItem_pairs (hsz := hz) (kV_is ry) dd fun h' dd' hs => h _ ?_
    have he : ∃ q, h'.get? a = some q := let ⟨q, _, _, hq, _⟩ := dd'; ⟨q, hq⟩
    exact d_write I (by rw [e]; exact True.intro) hs he (dk_new hl hd (rel.put k rv) dd')
  · subst ey eH
    cases (show u = Value.ref b from ry)
    obtain ⟨z, hd, xs, rel, dd⟩ := dt_of I.hok e
    have hz : xs.length ≤ sizeLine := by rw [← Paired.length rel]; exact z
    have hl : (putK kvs k v).length ≤ sizeLine := by have := length_putK kvs k v; omega
    refine wpAny_setItem_heap (hsz := hz) (tupleKind_room_in1 hu) (key_of I.hok eb) dd fun h' dd' hs => h _ ?_
    obtain ⟨q, es, ep, hq, h2, h3, h4, _, h5⟩ := dd'
    refine d_write I (by rw [e]; exact True.intro) hs ⟨q, hq⟩ ⟨hl, hd, _, (rel.put k eb rv).keeps fun c ys ec => ?_, q, es, ep, hq, h2, h3, h4, h5⟩
    rw [upd_ne (ne_of ec e (fun z => nomatch z))]
    exact ec
end
section
variable {X : Cx} {pins : List (Addr × Obj)} {σ : St} {H : Hp} {s : Shared} {a : Addr} {kvs : List (Key × V)} {k : Key} {u : Value} {A : Around} {E : Value → Shared → Prop}
end
def NoSl (i : Expr) : Prop := ∀ ov iv, subscripted i false ov iv = operate [ov, iv] (getItem ov iv)
theorem subD_of {prog : Program} {w : World} {A : Around} {E : Value → Shared → Prop} {s : Shared} {env : Env} {value slice : Expr} {pos : Pos} {T id : String} {Q : Value → Shared → Prop}
    (hl : typeLookup (.type T) "__getitem__" = pure (some (.builtin id))) (hs : NoSl slice)
    (h : wpAny (model prog w) A (eval value env) (fun o s₁ => wpAny (model prog w) A (eval slice env) (fun i s₂ => s₂.TypeIs o T ∧ wpAny (model prog w) A (getItem o i) Q E s₂) E s₁) E s) :
    wpAny (model prog w) A (eval (.Subscript value slice pos) env) Q E s := by
  refine Subscript_ (wpAny_mono h (fun o s₁ h₁ => wpAny_mono h₁ (fun i s₂ h₂ => ?_) fun _ _ x => x) fun _ _ x => x)
  obtain ⟨hT, h₂⟩ := h₂
  unfold subscriptTail
  refine wpAny_bind ?_
  rw [getitemInPython_of_ne hT.not_modules]
  refine wpAny_bind (wpAny_specialOf hT hl ?_)
  have fin : wpAny (model prog w) A (subscripted slice false o i) (fun r s₃ => wpAny (model prog w) A (letTemporaryGo value o r >>= fun _ => pure r) Q E s₃) E s₂ := by
    rw [hs o i]
    exact wpAny_operating (wpAny_mono h₂ (fun r s₃ h₃ => wpAny_bind (wpAny_letTemporaryGo (wpAny_pure h₃))) fun _ _ x => x)
  first
    | exact wpAny_pure (wpAny_bind fin)
    | exact wpAny_bind (wpAny_pure (wpAny_bind fin))
    | exact wpAny_bind fin
theorem dict_typeIs {X : Cx} {pins : List (Addr × Obj)} {σ : St} {H : Hp} {s : Shared} {a : Addr} {y : V} {o : Option V} (I : Inv X pins σ H s) (g : DGet H a y o) : s.TypeIs (.ref a) "dict" := by
  rcases g with ⟨kvs, k, e, _, _⟩ | ⟨kvs, k, b, e, _, _, _⟩
  · obtain ⟨_, _, vs, _, dd⟩ := dk_rd I.hok e
    exact dd.typeIs
  · obtain ⟨_, _, xs, _, dd⟩ := dt_rd I.hok e
    exact dd.typeIs
def tDGet (td ty : TE) : TE := fun σ H Q => td σ H fun x H1 => ty σ H1 fun y H2 => ∃ a v, x = .ref a ∧ DGet H2 a y (some v) ∧ Q v H2
def tDIn (ty td : TE) : TE := fun σ H Q => ty σ H fun y H1 => td σ H1 fun x H2 => ∃ a o, x = .ref a ∧ DGet H2 a y o ∧ Q (.bl o.isSome) H2
def tDNotIn (ty td : TE) : TE := fun σ H Q => ty σ H fun y H1 => td σ H1 fun x H2 => ∃ a o, x = .ref a ∧ DGet H2 a y o ∧ Q (.bl (!o.isSome)) H2
def sDPut (td ty tv : TE) : TS := fun D σ H => tv σ H fun v H1 => td σ H1 fun x H2 => ty σ H2 fun y H3 => ∃ a H4, x = .ref a ∧ DPut H3 a y v H4 ∧ D.nx σ H4
section
variable {X : Cx} {o i e value : Expr} {pos pos' tpos : Pos} {td ty tv : TE}
theorem pe_dget (hu : X.A.units + 1 < cLine) (ho : PE X o td) (hi : PE X i ty) (hs : NoSl i) : PE X (.Subscript o i pos) (tDGet td ty) := by
  intro pins s σ H Q I h
  refine subD_of PySem.F.slot_dict_getitem.lookup hs (thn (ho pins s σ H _ I h) fun u s1 ⟨x, H1, I1, rx, q1⟩ => thn (hi pins s1 σ H1 _ I1 q1) fun iv s2 ⟨y, H2, I2, ry, a, v, ex, g, q2⟩ => ?_)
  subst ex
  obtain rfl : u = Value.ref a := rx
  exact ⟨dict_typeIs I2 g, d_getItem hu I2 g ry fun w' s3 I3 rw' => ⟨v, H2, I3, rw', q2⟩⟩
theorem pc_din (hu : X.A.units + 1 < cLine) (hi : PE X i ty) (ho : PE X o td) : PC X .In i o (tDIn ty td) := by
  intro pins s σ H Q I h
  refine thn (hi pins s σ H _ I h) fun iv s1 ⟨y, H1, I1, ry, q1⟩ => thn (ho pins s1 σ H1 _ I1 q1) fun u s2 ⟨x, H2, I2, rx, a, ov, ex, g, q2⟩ => ?_
  subst ex
  obtain rfl : u = Value.ref a := rx
  exact d_in hu I2 g ry fun s3 I3 => ⟨.bl ov.isSome, H2, I3, rfl, q2⟩
theorem pc_dnotin (hu : X.A.units + 1 < cLine) (hi : PE X i ty) (ho : PE X o td) : PC X .NotIn i o (tDNotIn ty td) := by
  intro pins s σ H Q I h
  refine thn (hi pins s σ H _ I h) fun iv s1 ⟨y, H1, I1, ry, q1⟩ => thn (ho pins s1 σ H1 _ I1 q1) fun u s2 ⟨x, H2, I2, rx, a, ov, ex, g, q2⟩ => ?_
  subst ex
  obtain rfl : u = Value.ref a := rx
  exact d_notIn hu I2 g ry fun s3 I3 => ⟨.bl (!ov.isSome), H2, I3, rfl, q2⟩
theorem ps_dput (hu : X.A.units + 1 < cLine) (ho : PE X o td) (hi : PE X i ty) (hv : PE X value tv) (hs : swapsWith value (some (.Subscript o i pos')) pos.line X.env = pure false) :
    PS X (.Assign [.Subscript o i pos'] value pos) (sDPut td ty tv) := by
  intro pins s σ H D I h
  refine wpAny_Assign_Subscript (thn (hv pins s σ H _ I h) fun r s1 ⟨v, H1, I1, rv, q1⟩ => thn (ho pins s1 σ H1 _ I1 q1) fun u s2 ⟨x, H2, I2, rx, q2⟩ => thn (hi pins s2 σ H2 _ I2 q2) fun iv s3 ⟨y, H3, I3, ry, a, H4, ex, g, q3⟩ => ?_) hs
  subst ex
  obtain rfl : u = Value.ref a := rx
  exact d_setItem hu I3 g ry rv fun s4 I4 => ⟨σ, H4, I4, q3⟩
end
theorem dt_empty {P : Program} {w : World} {H : Hp} (h : Heap) (hb : sysModules < h.objs.size) : ObjOk P w H (h.push { cls := .type "dict", data := .dict #[] }) h.objs.size (.dT []) :=
  ⟨Nat.zero_le _, beq_eq_false_iff_ne.mpr (Ne.symm (Nat.ne_of_lt hb)), [], .nil, _, #[], 0, Heap.get?_push_size _ rfl, ⟨rfl, rfl, rfl⟩, rfl, rfl, List.nodup_nil⟩
def tDNewT : TE := fun _ H Q => ∀ p, H p = none → Q (.ref p) (upd H p (.dT []))
section
variable {X : Cx} {pos : Pos}
theorem pe_dnewT : PE X (.Dict [] [] pos) tDNewT := fun pins s σ H Q I h =>
  wpAny_Dict_empty ⟨.ref s.heap.objs.size, _, I.laid (a := s.heap.objs.size) (o := .dT []) (t' := s.toks) (fun _ _ q => Heap.get?_push_of_some _ q) (Nat.le_refl _) (dt_empty s.heap I.big), rfl, h _ (I.hok.fresh (Nat.le_refl _))⟩
end
structure M2 (X : Cx) (o : Expr) (m : Str) (apos : Pos) (e f : Expr) (cpos : Pos) : Prop where
  base : attributeBase o m X.env (eval o X.env) = eval o X.env
  few : ((backTo cpos (starEach [e, f] X.env)).all (fun x => !x.1) && (backToKw cpos (keywordEach [] X.env)).all (fun x => x.1.isSome)
    && decide (([e, f] : List Expr).length + ([] : List Keyword).length + (if ([] : List Keyword).isEmpty then 0 else 1) < 30)) = true
  line : (apos.endLine == cpos.line) = true
  trees : backTo cpos (starEach [e, f] X.env) = [(false, eval e X.env), (false, eval f X.env)]
def IsD (H : Hp) (a : Addr) : Prop := (∃ kvs, Rd H a (.dK kvs)) ∨ ∃ kvs, Rd H a (.dT kvs)
theorem isD_at {X : Cx} {pins : List (Addr × Obj)} {σ : St} {H : Hp} {s : Shared} {a : Addr} (I : Inv X pins σ H s) (d : IsD H a) :
    s.TypeIs (.ref a) "dict" ∧ (∀ b, Value.ref a = .ref b → ∃ ob, s.heap.get? b = some ob ∧ ob.dict = none) ∧ (a == sysModules) = false := by
  rcases d with ⟨kvs, e⟩ | ⟨kvs, e⟩
  · obtain ⟨_, hd, vs, _, dd⟩ := dk_rd I.hok e
    refine ⟨dd.typeIs, fun b q => ?_, hd⟩
    cases q
    obtain ⟨ob, _, _, h1, h2, _⟩ := dd
    exact ⟨ob, h1, h2.2.1⟩
  · obtain ⟨_, hd, xs, _, dd⟩ := dt_rd I.hok e
    refine ⟨dd.typeIs, fun b q => ?_, hd⟩
    cases q
    obtain ⟨ob, _, _, h1, h2, _⟩ := dd
    exact ⟨ob, h1, h2.2.1⟩
section
variable {X : Cx} {pins : List (Addr × Obj)} {σ : St} {H : Hp} {s : Shared} {a : Addr} {y d : V} {u r : Value} {o : Option V} {A : Around} {E : Value → Shared → Prop}
theorem d_get2 {Q : Value → Shared → Prop} (hu : A.units + 1 < cLine) (I : Inv X pins σ H s) (g : DGet H a y o) (ry : RelV y u) (rd : RelV d r) (h : ∀ w' s', Inv X pins σ H s' → RelV (o.getD d) w' → Q w' s') :
    wpAny (model X.prog X.w) A (call (.builtin "dict.get") [.ref a, u, r]) Q E s := by
  rcases g with ⟨kvs, k, e, ey, l⟩ | ⟨kvs, k, b, e, ey, eb, l⟩
  · subst ey
    obtain ⟨z, hd, vs, rel, dd⟩ := dk_rd I.hok e
    refine call_meetsIn PySem.F.slot_dict_get dd.typeIs PySem.F.entry_dict_get (PySem.F.args_dict_get_3 _ _ _) (meets_dict_get_default (mixKind X.prog X.w) a (kV_is ry) hd r) ⟨_, dd.mapOf, h _ _ (I.tok _) ?_⟩
    rw [l]
    exact (rel.val k).getD rd
  · subst ey
    cases (show u = Value.ref b from ry)
    obtain ⟨z, hd, xs, rel, dd⟩ := dt_rd I.hok e
    refine call_meetsIn PySem.F.slot_dict_get dd.typeIs PySem.F.entry_dict_get (PySem.F.args_dict_get_3 _ _ _) (meetsH_dict_get_default (tupleKind (mixKind X.prog X.w)) a b hd r) ⟨tupleKind_room_in1 hu, k, xs, key_of I.hok eb, dd, h _ _ (I.tok _) ?_⟩
    rw [l]
    exact (rel.val k).getD rd
end
def tDGet2 (td ty tx : TE) : TE := fun σ H Q => td σ H fun x H1 => ∃ a, x = .ref a ∧ IsD H1 a ∧ ty σ H1 fun y H2 => tx σ H2 fun z H3 => ∃ o, DGet H3 a y o ∧ Q (o.getD z) H3
section
variable {X : Cx} {o e f : Expr} {apos cpos : Pos} {td ty tx : TE}
theorem pe_dget2 (hu : X.A.units + 1 < cLine) (ho : PE X o td) (he : PE X e ty) (hf : PE X f tx) (m : M2 X o "get" apos e f cpos) : PE X (.Call (.Attribute o "get" apos) [e, f] [] cpos) (tDGet2 td ty tx) := by
  intro pins s σ H Q I h
  refine wpAny_Call_method m.base m.few m.line PySem.F.plainAttrs_dict PySem.F.slot_dict_get PySem.F.type_dict_get (thn (ho pins s σ H _ I h) fun u s1 ⟨x, H1, I1, rx, a, ex, d, q1⟩ => ?_)
  subst ex
  obtain rfl : u = Value.ref a := rx
  obtain ⟨t1, t2, _⟩ := isD_at I1 d
  refine ⟨t1, t2, ?_⟩
  rw [m.trees]
  refine Calls.callWith_builtin rfl (Calls.evalArgs_plain (Calls.spliced_cons (thn (he pins s1 σ H1 _ I1 q1) fun iv s2 ⟨y, H2, I2, ry, q2⟩ =>
    Calls.spliced_cons (thn (hf pins s2 σ H2 _ I2 q2) fun fv s3 ⟨z, H3, I3, rz, ov, g, q3⟩ => Calls.spliced_nil ?_))))
  exact d_get2 hu I3 g ry rz fun w' s4 I4 rw' => ⟨_, H3, I4, rw', q3⟩
end
section
variable {X : Cx} {pins : List (Addr × Obj)} {σ : St} {H : Hp} {s : Shared} {a : Addr} {kvs : List (Key × V)} {A : Around} {E : Value → Shared → Prop}
end
section
variable {X : Cx} {pins : List (Addr × Obj)} {σ : St} {H : Hp} {s : Shared} {a : Addr} {y : V} {u : Value} {A : Around} {E : Value → Shared → Prop}
end
end L2
namespace L2
open PySem PySem.Spec PyProof.Rows
section
variable {κ : Type} [DecidableEq κ]
end
end L2
set_option Elab.async false
set_option linter.all false
set_option maxRecDepth 100000
set_option maxHeartbeats 4000000
namespace L2
open PySem PySem.Spec PyProof.Rows
section
variable {X : Cx} {x : Str} {p pos : Pos} {e : Expr} {es : List Expr} {kws : List Keyword} {ks : List Str} {t tk : TA} {id : String} {r : List V → List V → Hp → VK → Prop}
def CallKR (X : Cx) (f : Value) (ks : List Str) (r : List V → List V → Hp → VK → Prop) : Prop :=
  ∀ (pins : List (Addr × Obj)) (s : Shared) (σ : St) (H : Hp) (xs zs : List V) (us ws : List Value) (Q : VK), Inv X pins σ H s → Vals xs us → Vals zs ws → r xs zs H Q → wpAny (model X.prog X.w) X.A (call f us (ks.zip ws)) (EP X pins σ Q) X.xe s
def tCBK (r : List V → List V → Hp → VK → Prop) (t tk : TA) : TE := fun σ H Q => t σ H fun xs H1 => tk σ H1 fun zs H2 => r xs zs H2 Q
theorem pe_callBK (hc : CallKR X (.builtin id) ks r) (hg : Gl X x) (hm : X.mg x = none) (hv : bootBuiltins x = some (.builtin id)) (ha : PA X (e :: es) t) (hkw : PK X kws tk) (hks : (backToKw pos (keywordEach kws X.env)).filterMap (·.1) = ks := by rfl)
    (hn : x ≠ "__name__" := by decide) (hdb : (x == ("__debug__" : Str)) = false := by decide) (he : backTo pos (starEach (e :: es) X.env) = (false, eval e X.env) :: backTo pos (starEach es X.env) := by rfl) (hpl : (backTo pos (starEach (e :: es) X.env)).any (·.1) = false := by rfl)
    (hall : (backToKw pos (keywordEach kws X.env)).all (·.1.isSome) = true := by rfl) (hno : (backToKw pos (keywordEach kws X.env)).any (·.1.isNone) = false := by rfl) : PE X (.Call (.Name x p) (e :: es) kws pos) (tCBK r t tk) := by
  intro pins s σ H Q I h
  refine wpAny_Call_Name_kw (ld_blt I hg hm hv ?_ hn hdb)
  refine callWith_kw (thn (ha pos pins s σ H _ I h) fun us s1 ⟨vs, H1, I1, r1, q1⟩ => thn (hkw pos pins s1 σ H1 _ I1 q1) fun ws s2 ⟨zs, H2, I2, r2, q2⟩ => ?_) he hpl hall hno
  rw [hks]
  exact hc pins s2 σ H2 vs zs us ws Q I2 r1 r2 q2
end
section
variable {prog : Program} {w : World} {A : Around} {R : Result → Shared → Prop} {I : Addr} {fp wr : List Addr} {n : Nat} {P : Nat → Value → Prop} {St : Nat → Heap → Prop}
theorem maxD_on (W : Walks prog w A.in1 I fp wr n P St) (bt : Nat → Nat → Bool) (hc : CmpOf prog w A.in1 .Gt P bt) (S : Addr) (nS : S ∉ fp) (kw : List (Str × Value)) : ∀ (k j : Nat) (s : Shared) (vb : Value) (c : Nat), n - (j + 1) = k → j + 1 ≤ n → St (j + 1) s.heap → P (argBest bt j) vb →
    s.heap.get? S = some { cls := .type "list", dict := none, data := .seq #[vb, vb] c, slots := #[] } → (∀ v h' tk, P (argBest bt (n - 1)) v → (∀ b o, b ∉ wr → b ≠ S → s.heap.get? b = some o → h'.get? b = some o) → R (.ok (.ret v)) { s with heap := h', toks := tk }) →
    codeAny (model prog w) A (.builtin "max.loop" ⟨[.ref I, .none, .ref S], kw⟩) R s := by
  have nw : S ∉ wr := fun z => nS (W.sub _ z)
  have nm : (toString "max" ++ toString ".loop" : String) = "max.loop" := by decide
  intro k
  induction k with
  | zero =>
    intro j s vb c hk hj st hb oS q
    have ej : j + 1 = n := by omega
    refine codeAny_builtin F.entry_max_loop ?_
    rw [Around.under_plainId F.plain_max_loop _]
    refine wpAny_bind (m := seqItems? (.ref S)) (wpAny_seqItems oS rfl (wpAny_bind (wpAny_tryCatch (W.done s _ _ (ej ▸ st) fun h' tk kp => ?_))))
    refine wpAny_bind (wpAny_updateSeq (kp S _ nw oS) rfl (wpAny_bind (wpAny_letGo (wpAny_pure ?_))))
    exact q vb _ tk (by rw [← ej]; exact hb) fun b o b1 b2 e => (Heap.get?_update_other _ _ (Ne.symm b2)).trans (kp b o b1 e)
  | succ k ih =>
    intro j s vb c hk hj st hb oS q
    refine codeAny_builtin F.entry_max_loop ?_
    rw [Around.under_plainId F.plain_max_loop _]
    refine wpAny_bind (m := seqItems? (.ref S)) (wpAny_seqItems oS rfl (wpAny_bind (wpAny_tryCatch (W.item (j + 1) s _ _ (by omega) st fun v h' tk hP st' kp => ?_))))
    have oS' := kp S _ nw oS
    refine wpAny_bind (wpAny_pure ?_)
    refine wpAny_bind (m := tryCatch (holding [v, v] (richCompare CmpOp.Gt v vb >>= _)) _) (wpAny_tryCatch (wpAny_holding (wpAny_bind (hc (j + 1) (argBest bt j) v vb _ _ _ hP hb (wpAny_bind (wpAny_holding (wpAny_truthy_bool (wpAny_bind (wpAny_letGo (wpAny_pure ?_))))))))))
    cases bb : bt (j + 1) (argBest bt j) with
    | true =>
      simp only [if_true]
      refine wpAny_bind (wpAny_updateSeq oS' rfl (wpAny_bind (wpAny_letGo ?_)))
      rw [nm]
      refine wpAny_pure ⟨plainId_quiet F.plain_max_loop _, ih (j + 1) _ v _ (by omega) (by omega) (W.frame _ _ _ st' fun b hf o e => (Heap.get?_update_other _ _ (fun z : S = b => nS (by rw [z]; exact hf))).trans e) (by simp only [argBest, bb, if_true]; exact hP) (Heap.get?_update_self _ oS' rfl) fun v' h'' tk'' hP' kp' => ?_⟩
      exact q v' h'' tk'' hP' fun b o b1 b2 e => kp' b o b1 b2 ((Heap.get?_update_other _ _ (Ne.symm b2)).trans (kp b o b1 e))
    | false =>
      simp only [Bool.false_eq_true, if_false]
      refine wpAny_bind (wpAny_letGo ?_)
      rw [nm]
      exact wpAny_pure ⟨plainId_quiet F.plain_max_loop _, ih (j + 1) _ vb c (by omega) (by omega) st' (by simp only [argBest, bb, Bool.false_eq_true, if_false]; exact hb) oS' fun v' h'' tk'' hP' kp' => q v' h'' tk'' hP' fun b o b1 b2 e => kp' b o b1 b2 (kp b o b1 e)⟩
theorem maxD_first (W : Walks prog w A.in1 I fp wr n P St) (bt : Nat → Nat → Bool) (hc : CmpOf prog w A.in1 .Gt P bt) (S : Addr) (nS : S ∉ fp) {k : Str} {d : Value} {s : Shared} {c : Nat} (st : St 0 s.heap)
    (oS : s.heap.get? S = some { cls := .type "list", dict := none, data := .seq #[] c, slots := #[] })
    (q : ∀ v h' tk, ((0 < n ∧ P (argBest bt (n - 1)) v) ∨ (n = 0 ∧ v = d)) → (∀ b o, b ∉ wr → b ≠ S → s.heap.get? b = some o → h'.get? b = some o) → R (.ok (.ret v)) { s with heap := h', toks := tk }) :
    codeAny (model prog w) A (.builtin "max.loop" ⟨[.ref I, .none, .ref S], [(k, d)]⟩) R s := by
  have nw : S ∉ wr := fun z => nS (W.sub _ z)
  have nm : (toString "max" ++ toString ".loop" : String) = "max.loop" := by decide
  refine codeAny_builtin F.entry_max_loop ?_
  rw [Around.under_plainId F.plain_max_loop _]
  by_cases h0 : n = 0
  · subst h0
    refine wpAny_bind (m := seqItems? (.ref S)) (wpAny_seqItems oS rfl (wpAny_bind (wpAny_tryCatch (W.done s _ _ st fun h' tk kp => ?_))))
    exact wpAny_bind (wpAny_rule (wpAny_pure (q d h' tk (.inr ⟨rfl, rfl⟩) fun b o b1 _ e => kp b o b1 e)))
  · refine wpAny_bind (m := seqItems? (.ref S)) (wpAny_seqItems oS rfl (wpAny_bind (wpAny_tryCatch (W.item 0 s _ _ (by omega) st fun v h' tk hP st' kp => ?_))))
    refine wpAny_bind (wpAny_pure ?_)
    refine wpAny_bind (wpAny_updateSeq (kp S _ nw oS) rfl ?_)
    rw [nm]
    refine wpAny_pure ⟨plainId_quiet F.plain_max_loop _, maxD_on W bt hc S nS _ _ 0 _ v _ rfl (by omega) (W.frame _ _ _ st' fun b hf o e => (Heap.get?_update_other _ _ (fun z : S = b => nS (by rw [z]; exact hf))).trans e) hP (Heap.get?_update_self _ (kp S _ nw oS) rfl) fun v' h'' tk'' hP' kp' => ?_⟩
    exact q v' h'' tk'' (.inl ⟨by omega, hP'⟩) fun b o b1 b2 e => kp' b o b1 b2 ((Heap.get?_update_other _ _ (Ne.symm b2)).trans (kp b o b1 e))
end
end L2
set_option Elab.async false
set_option linter.all false
set_option maxRecDepth 100000
set_option maxHeartbeats 4000000
namespace L2
open PySem PySem.Spec PyProof.Rows
theorem args_maxD (a v : Value) : argsOk "max" ⟨[a], [(Str.ofString "default", v)]⟩ := by unfold argsOk; kernel_rfl
theorem best_all (val : Nat → Int) : ∀ k, argBest (fun i j => decide (val i > val j)) k ≤ k ∧ ∀ i, i ≤ k → val i ≤ val (argBest (fun i j => decide (val i > val j)) k)
  | 0 => ⟨Nat.le_refl _, fun i hi => by rw [Nat.le_zero.mp hi]; exact Int.le_refl _⟩
  | k + 1 => by
    obtain ⟨h1, h2⟩ := best_all val k
    unfold argBest
    by_cases c : val (k + 1) > val (argBest (fun i j => decide (val i > val j)) k)
    · rw [if_pos (decide_eq_true c)]
      refine ⟨Nat.le_refl _, fun i hi => ?_⟩
      by_cases e : i = k + 1
      · rw [e]; exact Int.le_refl _
      · have := h2 i (by omega)
        omega
    · rw [if_neg (by rw [decide_eq_false c]; decide)]
      refine ⟨by omega, fun i hi => ?_⟩
      by_cases e : i = k + 1
      · rw [e]; omega
      · exact h2 i (by omega)
def rMaxD : List V → List V → Hp → VK → Prop := fun xs zs H Q => ∃ p ns d, xs = [.ref p] ∧ zs = [.int d] ∧ H p = some (.lst (ns.map V.int)) ∧ ∀ g, (∀ n, n ∈ ns → n ≤ g) → (g ∈ ns ∨ (ns = [] ∧ g = d)) → Q (.int g) H
section
variable {X : Cx}
theorem call_maxD (hc : X.calm = true) : CallKR X (.builtin "max") [Str.ofString "default"] rMaxD := by
  intro pins s σ H xs zs us ws Q I r rz h
  obtain ⟨p, ns, d, rfl, rfl, hp, q⟩ := h
  obtain ⟨u, rfl, ru⟩ := vals1 r
  obtain ⟨u', rfl, t, rfl⟩ := vals1 rz
  cases ru
  obtain ⟨its, rv, pl, hz⟩ := I.list (.of hp)
  have ia : IntsAre its ns := by
    have := intsAre_of rv
    simpa using this
  have len := ia.length
  have ne : p ≠ s.heap.objs.size := Nat.ne_of_lt pl.lt
  have nm : (toString "max" ++ toString ".loop" : String) = "max.loop" := by decide
  refine kmk_tree PySem.F.kind_max PySem.F.plain_max PySem.F.entry_max (args_maxD _ _) ?_
  refine wpAny_bind (m := Builtin.Builtins.bindParams "max" ["key", "default"] 0 ⟨[], [(Str.ofString "default", .int d t)]⟩) (wpAny_of_eq (show Builtin.Builtins.bindParams "max" ["key", "default"] 0 ⟨[], [(Str.ofString "default", .int d t)]⟩ = pure [none, some (.int d t)] from rfl) (wpAny_bind (wpAny_pure (wpAny_bind (wpAny_pyIter_list pl.isList (wpAny_bind (wpAny_newList ?_ (Nat.zero_le _))))))))
  rw [nm]
  have W := Walks.list (prog := X.prog) (w := X.w) (A := X.A.in1) (show X.A.in1.handled = none from I.ok.hd hc) s.heap.objs.size p ne its.toArray
  have it : ∀ i v, its.toArray[i]? = some v → ∃ t, v = Value.int (ns.getD i 0) t := fun i v hv => IntsAre.int_at ia i v (by simpa using hv)
  have sz : (s.heap.push { cls := .type "list_iterator", data := .fields #[.ref p, .int 0 0] }).objs.size = s.heap.objs.size + 1 := by rw [Heap.size_push]
  refine wpAny_pure ⟨plainId_quiet PySem.F.plain_max_loop _, maxD_first W (fun i j => decide (ns.getD i 0 > ns.getD j 0)) (CmpOf.ints_gt (fun i => ns.getD i 0) it) _ (fun z => ?_) (st := W.frame 0 _ _ ⟨⟨_, Heap.get?_push_size _ rfl, rfl, rfl⟩, pl.isList.push _⟩ fun b _ o e => Heap.get?_push_of_some _ e) (Heap.get?_push_size _ rfl) fun v h' tk hv kp => ?_⟩
  · rw [sz] at z
    have l2 : p < s.heap.objs.size := pl.lt
    rcases List.mem_cons.mp z with z | z
    · exact absurd z (Nat.ne_of_gt (Nat.lt_succ_self _))
    · exact absurd (List.mem_singleton.mp z) (Nat.ne_of_gt (Nat.lt_succ_of_lt l2))
  · have keep : ∀ b o, s.heap.get? b = some o → h'.get? b = some o := fun b o e => by
      have lt := Heap.lt_size e
      refine kp b o (fun z => ?_) (fun z => ?_) (Heap.get?_push_of_some _ (Heap.get?_push_of_some _ e))
      · exact absurd (show b = s.heap.objs.size by simpa using z) (Nat.ne_of_lt lt)
      · rw [sz] at z
        exact absurd z (Nat.ne_of_lt (Nat.lt_succ_of_lt lt))
    obtain ⟨b1, b2⟩ := best_all (fun i => ns.getD i 0) (its.toArray.size - 1)
    have J : Inv X pins σ H { s with heap := h', toks := tk } := I.kept keep
    rcases hv with ⟨h0, hv⟩ | ⟨h0, rfl⟩
    · obtain ⟨t', rfl⟩ := it _ _ hv
      have h0 : 0 < its.length := by simpa using h0
      have zi : its.toArray.size = its.length := rfl
      rw [zi] at b1 b2 ⊢
      refine ⟨.int _, H, J, ⟨t', rfl⟩, q _ (fun n hn => ?_) (.inl ?_)⟩
      · obtain ⟨i, hi, e⟩ := List.mem_iff_getElem.mp hn
        have := b2 i (by omega)
        have e' : ns.getD i 0 = n := by simp [hi, e]
        rw [e'] at this
        exact this
      · have hb : argBest (fun i j => decide (ns.getD i 0 > ns.getD j 0)) (its.length - 1) < ns.length := by omega
        rw [List.getD_eq_getElem?_getD, List.getElem?_eq_getElem hb]
        exact List.getElem_mem _
    · have h0 : its.length = 0 := by simpa using h0
      have n0 : ns = [] := List.eq_nil_of_length_eq_zero (by omega)
      exact ⟨.int d, H, J, ⟨t, rfl⟩, q d (fun n hn => by rw [n0] at hn; cases hn) (.inr ⟨n0, rfl⟩)⟩
end
end L2
set_option Elab.async false
set_option linter.all false
set_option maxRecDepth 100000
set_option maxHeartbeats 4000000
namespace L2
open PySem PySem.Spec PyProof.Rows
section
variable {prog : Program} {w : World} {A : Around} {E : Value → Shared → Prop} {s : Shared}
theorem sd_heap {d a : Addr} {xs : List (List Key × Addr × Value)} {k : List Key} {v : Value} {Q : Value → Shared → Prop} (hu : (tupleKind (mixKind prog w)).room A) (hkey : (tupleKind (mixKind prog w)).is s.heap k a) (hm : s.heap.DictOfH (tupleKind (mixKind prog w)) d xs) (hz : xs.length ≤ sizeLine)
    (q1 : ∀ p, atKey xs k = some p → Q p.2 { s with toks := s.toks + (tupleKind (mixKind prog w)).draws k })
    (q2 : atKey xs k = none → ∀ h', h'.DictOfH (tupleKind (mixKind prog w)) d (storedH xs k a v) → Heap.SameBut d s.heap h' → Q v { s with heap := h', toks := s.toks + (tupleKind (mixKind prog w)).draws k }) :
    wpAny (model prog w) A (dictSetDefault d (.ref a) v) Q E s := by
  obtain ⟨o, es, ep, ho, hc, hd, he, his, hn⟩ := hm
  unfold dictSetDefault
  refine wpAny_holding (wpAny_bind ((tupleKind (mixKind prog w)).pyHash hu hkey (wpAny_bind (wpAny_dictFind_heap (s := { s with toks := s.toks + (tupleKind (mixKind prog w)).draws k }) hu hkey ho hd he his hn (fun hno => ?_) fun j p hj => ?_))))
  · have an := atKey_none_of_get hno
    have hnot : k ∉ xs.map (·.1) := not_mem_keys_of_get hno
    refine wpAny_bind (wpAny_rule (wpAny_bind (wpAny_updateDictKeys (hz := by have e := size_of_entries he; omega) (s := { s with toks := s.toks + (tupleKind (mixKind prog w)).draws k }) ho hd (wpAny_pure (q2 an _ ⟨_, _, ep + 1, Heap.get?_update_self _ ho (Obj.isFreed_of_dict (Obj.data_mapDictKeys hd _)), hc.mapDictKeys _, Obj.data_mapDictKeys hd _, ?_, ?_, ?_⟩ (Heap.SameBut.update ..))))))
    · rw [storedH_new an]
      simp [he, entryOfKey]
    · rw [storedH_new an]
      intro x hx
      rcases List.mem_append.mp hx with y | y
      · exact (tupleKind (mixKind prog w)).keeps (his x y) ho hd (Heap.SameBut.update ..)
      · rw [List.mem_singleton.mp y]
        exact (tupleKind (mixKind prog w)).keeps hkey ho hd (Heap.SameBut.update ..)
    · rw [storedH_new an, List.map_append, List.nodup_append]
      refine ⟨hn, by simp, fun x hx y hy e => hnot ?_⟩
      have y' : y = k := by simpa using hy
      rw [← y', ← e]
      exact hx
  · refine wpAny_bind (wpAny_dictEntries (s := { s with toks := s.toks + (tupleKind (mixKind prog w)).draws k }) ho hd ?_)
    rw [entry_at he j, hj]
    exact wpAny_bind (wpAny_rule (wpAny_pure (q1 p (atKey_of_get hn hj))))
theorem sd_meets {d a : Addr} (hd : (d == sysModules) = false) (v : Value) : MeetsIn prog w (Builtin.«dict.setdefault» ⟨[.ref d, .ref a, v], []⟩) (fun A R s => (tupleKind (mixKind prog w)).room A.in1 ∧ ∃ k xs, (tupleKind (mixKind prog w)).is s.heap k a ∧ s.heap.DictOfH (tupleKind (mixKind prog w)) d xs ∧ xs.length ≤ sizeLine ∧
    (∀ p, atKey xs k = some p → R (.ok (.ret p.2)) { s with toks := s.toks + (tupleKind (mixKind prog w)).draws k }) ∧
    (atKey xs k = none → ∀ h', h'.DictOfH (tupleKind (mixKind prog w)) d (storedH xs k a v) → Heap.SameBut d s.heap h' → R (.ok (.ret v)) { s with heap := h', toks := s.toks + (tupleKind (mixKind prog w)).draws k })) :=
  .of_wp fun A R s ⟨hu, k, xs, hkey, hm, hz, h1, h2⟩ => by
    unfold Builtin.«dict.setdefault» Builtin.Dict.keyAndDefault
    refine wpAny_bind (wpAny_bind (wpAny_notOrdered_dict hm.typeIs ?_))
    show wpAny _ _ (pure (d, Value.ref a, some v)) _ _ s
    refine wpAny_pure ?_
    show wpAny _ _ (if (d == sysModules) = true then _ else (dictSetDefault d (Value.ref a) v >>= _)) _ _ s
    rw [if_neg (by rw [hd]; decide)]
    exact wpAny_bind (sd_heap hu hkey hm hz (fun p hp => wpAny_pure ⟨p.2, rfl, h1 p hp⟩) fun hn h' hm' hs' => wpAny_pure ⟨v, rfl, h2 hn h' hm' hs'⟩)
end
section
variable {X : Cx} {pins : List (Addr × Obj)} {σ : St} {H : Hp} {s : Shared}
def rSD (a : Addr) (y z : V) (H : Hp) (Q : VK) : Prop := ∃ kvs k b, H a = some (.dT kvs) ∧ y = .ref b ∧ H b = some (.tup (k.map kV)) ∧ kvs.length < sizeLine ∧ (∀ v, valV kvs k = some v → Q v H) ∧ (valV kvs k = none → Q z (upd H a (.dT (putK kvs k z))))
theorem d_setDefault {A : Around} {E : Value → Shared → Prop} {a : Addr} {y z : V} {u r : Value} {Q : VK} (hu : A.units + 1 < cLine) (I : Inv X pins σ H s) (g : rSD a y z H Q) (ry : RelV y u) (rz : RelV z r) :
    wpAny (model X.prog X.w) A (call (.builtin "dict.setdefault") [.ref a, u, r]) (EP X pins σ Q) E s := by
  obtain ⟨kvs, k, b, e, rfl, eb, l, q1, q2⟩ := g
  cases (show u = Value.ref b from ry)
  obtain ⟨zz, hd, xs, rel, dd⟩ := dt_of I.hok e
  have hz : xs.length ≤ sizeLine := by rw [← Paired.length rel]; exact zz
  have hl : (putK kvs k z).length ≤ sizeLine := by have := length_putK kvs k z; omega
  refine call_meetsIn PySem.F.slot_dict_setdefault dd.typeIs PySem.F.entry_dict_setdefault (PySem.F.args_dict_setdefault_3 _ _ _) (sd_meets hd r) ⟨tupleKind_room_in1 hu, k, xs, key_of I.hok eb, dd, hz, fun p hp => ?_, fun hn h' dd' hs => ?_⟩
  · have rv := rel.val k
    rw [hp] at rv
    cases hv : valV kvs k with
    | none => rw [hv] at rv; exact rv.elim
    | some v =>
      rw [hv] at rv
      exact ⟨v, H, I.tok _, rv, q1 v hv⟩
  · have hv : valV kvs k = none := by
      have rv := rel.val k
      rw [hn] at rv
      cases hv : valV kvs k with
      | none => rfl
      | some v => rw [hv] at rv; exact rv.elim
    obtain ⟨o, es, ep, ho, h2, h3, h4, _, h5⟩ := dd'
    refine ⟨z, upd H a (.dT (putK kvs k z)), d_write I (by rw [e]; exact True.intro) hs ⟨o, ho⟩ ⟨hl, hd, _, (rel.put k eb rz).keeps fun c ys ec => ?_, o, es, ep, ho, h2, h3, h4, h5⟩, rz, q2 hv⟩
    rw [upd_ne (ne_of ec e (fun z => nomatch z))]
    exact ec
variable {o e f : Expr} {td ty tx : TE} {apos cpos : Pos}
def tDSd (td ty tx : TE) : TE := fun σ H Q => td σ H fun x H1 => ∃ a, x = .ref a ∧ IsD H1 a ∧ ty σ H1 fun y H2 => tx σ H2 fun z H3 => rSD a y z H3 Q
theorem pe_dsd (hu : X.A.units + 1 < cLine) (ho : PE X o td) (he : PE X e ty) (hf : PE X f tx) (m : M2 X o "setdefault" apos e f cpos) : PE X (.Call (.Attribute o "setdefault" apos) [e, f] [] cpos) (tDSd td ty tx) := by
  intro pins s σ H Q I h
  refine wpAny_Call_method m.base m.few m.line PySem.F.plainAttrs_dict PySem.F.slot_dict_setdefault PySem.F.type_dict_setdefault (thn (ho pins s σ H _ I h) fun u s1 ⟨x, H1, I1, rx, a, ex, d, q1⟩ => ?_)
  subst ex
  obtain rfl : u = Value.ref a := rx
  obtain ⟨t1, t2, _⟩ := isD_at I1 d
  refine ⟨t1, t2, ?_⟩
  rw [m.trees]
  exact Calls.callWith_builtin rfl (Calls.evalArgs_plain (Calls.spliced_cons (thn (he pins s1 σ H1 _ I1 q1) fun iv s2 ⟨y, H2, I2, ry, q2⟩ => Calls.spliced_cons (thn (hf pins s2 σ H2 _ I2 q2) fun fv s3 ⟨z, H3, I3, rz, g⟩ => Calls.spliced_nil (d_setDefault hu I3 g ry rz)))))
end
end L2
set_option Elab.async false
set_option linter.all false
set_option maxRecDepth 100000
set_option maxHeartbeats 4000000
namespace L2
open PySem PySem.Spec PyProof.Rows
section
variable {prog : Program} {w : World} {A : Around} {E : Value → Shared → Prop} {s : Shared}
theorem kiter_new {d : Addr} {od : Obj} {es : Array DictEntry} {ep : Nat} {Q : Value → Shared → Prop} (hd : (d == sysModules) = false) (ho : s.heap.get? d = some od) (hc : od.cls = .type "dict") (hdat : od.data = .dict es ep)
    (q : Q (.ref s.heap.objs.size) { s with heap := s.heap.push { cls := .type "dict_keyiterator", data := .fields #[.ref d, .int 0 0, .int es.size 0, .int ep 0] } }) : wpAny (model prog w) A (pyIter (.ref d)) Q E s := by
  have ty : s.TypeIs (.ref d) "dict" := ⟨od, ho, hc⟩
  refine wpAny_pyIter_slot ty PySem.F.slot_dict_iter (wpAny_call_entry PySem.F.slot_dict_iter ty PySem.F.entry_dict_iter ?_ (PySem.F.args_dict_iter_1 _))
  unfold Builtin.«dict.__iter__»
  refine wpAny_bind ?_
  unfold Builtin.Dict.dictSlotNone
  refine wpAny_bind (wpAny_notOrdered_dict ty (wpAny_pure ?_))
  refine wpAny_bind (m := Builtin.Dict.showsAll d) ?_
  unfold Builtin.Dict.showsAll
  rw [if_neg (by rw [hd]; decide)]
  refine wpAny_pure (wpAny_bind (wpAny_dictEntries ho hdat (wpAny_bind (wpAny_dictEpoch ho hdat (wpAny_bind (wpAny_newObj_type (wpAny_pure ⟨_, rfl, "dict_keyiterator", _, ⟨_, Heap.get?_push_size _ rfl, rfl⟩, PySem.F.slot_dict_keyiterator_next.lookup, ?_⟩)))))))
  simpa [rawInt] using q
theorem kiter_item {it d : Addr} {i ep : Nat} {od : Obj} {es : Array DictEntry} {Q : Option Value → Shared → Prop} (hit : s.heap.IsKeyIter it d i es.size ep) (ho : s.heap.get? d = some od) (hdat : od.data = .dict es ep) (hi : i < es.size)
    (q : ∀ h', h'.IsKeyIter it d (i + 1) es.size ep → Heap.SameBut it s.heap h' → Q (some es[i].key) { s with heap := h' }) : wpAny (model prog w) A (pyNext (.ref it)) Q E s := by
  obtain ⟨o, hoi, hci, hdi⟩ := id hit
  have own : Builtin.Dict_items.ownsTuple "dict_keyiterator" = false := by decide
  unfold pyNext
  refine wpAny_bind (wpAny_attempt (wpAny_callSpecial?_slot (name := Str.ofString "__next__") hit.typeIs PySem.F.slot_dict_keyiterator_next (wpAny_call_entry PySem.F.slot_dict_keyiterator_next hit.typeIs PySem.F.entry_dict_keyiterator_next (wpAny_bind (wpAny_pure (wpAny_bind (wpAny_bind ?_)))) (PySem.F.args_dict_keyiterator_next_1 _))))
  first | refine wpAny_bind (wpAny_typeNameOfWhole_keyiter hit.typeIs (wpAny_pure (wpAny_bind (wpAny_fieldsOf hoi hdi ?_)))) | refine wpAny_bind (wpAny_typeNameOf_keyiter hit.typeIs (wpAny_pure (wpAny_bind (wpAny_fieldsOf hoi hdi ?_))))
  simp only [own, Bool.false_eq_true, if_false]
  show wpAny _ _ (if (Value.ref d == Value.none) = true then _ else _) _ _ s
  have nv : ¬ ((Value.ref d == Value.none) = true) := Bool.false_ne_true
  rw [if_neg nv]
  refine wpAny_bind (wpAny_pure (wpAny_bind (wpAny_dictEntries ho hdat ?_)))
  rw [if_neg (by simp)]
  refine wpAny_bind (wpAny_pure (wpAny_bind (wpAny_dictEpoch ho hdat ?_)))
  rw [if_neg (by simp)]
  refine wpAny_pure ?_
  simp only [show ¬ ((i : Int) < 0) from by omega, if_false, Int.toNat_natCast, Array.getElem?_eq_getElem hi]
  refine wpAny_bind ?_
  first | refine wpAny_bind (wpAny_typeNameOfWhole_keyiter hit.typeIs (wpAny_pure (wpAny_bind (wpAny_isOneOf_keyiter hit.typeIs ?_)))) | refine wpAny_bind (wpAny_typeNameOf_keyiter hit.typeIs (wpAny_pure (wpAny_bind (wpAny_isOneOf_keyiter hit.typeIs ?_))))
  refine wpAny_bind (m := setField (.ref it) 1 (rawInt ((i : Int) + 1))) (wpAny_setField hoi hdi (by simp) ?_)
  have st : (s.heap.update it (Obj.mapFields (·.setIfInBounds 1 (rawInt ((i : Int) + 1))))).IsKeyIter it d (i + 1) es.size ep := ⟨_, Heap.get?_update_self _ hoi (Obj.isFreed_of_fields (Obj.data_mapFields hdi _)), (Obj.cls_mapFields ..).trans hci, by rw [Obj.data_mapFields hdi]; simp [rawInt]⟩
  refine wpAny_bind (wpAny_holding (wpAny_bind (wpAny_isOneOf_keyiter (s := { s with heap := s.heap.update it (Obj.mapFields (·.setIfInBounds 1 (rawInt ((i : Int) + 1)))) }) st.typeIs ?_)))
  exact wpAny_pure (wpAny_pure ⟨_, rfl, wpAny_pure (q _ st (Heap.SameBut.update ..))⟩)
theorem kiter_end {it d : Addr} {i ep : Nat} {od : Obj} {es : Array DictEntry} {Q : Option Value → Shared → Prop} (hh : A.handled = none) (hit : s.heap.IsKeyIter it d i es.size ep) (ho : s.heap.get? d = some od) (hdat : od.data = .dict es ep) (hi : es.size ≤ i)
    (q : ∀ h', Heap.ExtBut it s.heap h' → Q none { s with heap := h' }) : wpAny (model prog w) A (pyNext (.ref it)) Q E s := by
  obtain ⟨o, hoi, hci, hdi⟩ := id hit
  have own : Builtin.Dict_items.ownsTuple "dict_keyiterator" = false := by decide
  unfold pyNext
  refine wpAny_bind (wpAny_attempt (wpAny_callSpecial?_slot (name := Str.ofString "__next__") hit.typeIs PySem.F.slot_dict_keyiterator_next (wpAny_call_entry PySem.F.slot_dict_keyiterator_next hit.typeIs PySem.F.entry_dict_keyiterator_next (wpAny_bind (wpAny_pure (wpAny_bind (wpAny_bind ?_)))) (PySem.F.args_dict_keyiterator_next_1 _))))
  first | refine wpAny_bind (wpAny_typeNameOfWhole_keyiter hit.typeIs (wpAny_pure (wpAny_bind (wpAny_fieldsOf hoi hdi ?_)))) | refine wpAny_bind (wpAny_typeNameOf_keyiter hit.typeIs (wpAny_pure (wpAny_bind (wpAny_fieldsOf hoi hdi ?_))))
  simp only [own, Bool.false_eq_true, if_false]
  show wpAny _ _ (if (Value.ref d == Value.none) = true then _ else _) _ _ s
  have nv : ¬ ((Value.ref d == Value.none) = true) := Bool.false_ne_true
  rw [if_neg nv]
  refine wpAny_bind (wpAny_pure (wpAny_bind (wpAny_dictEntries ho hdat ?_)))
  rw [if_neg (by simp)]
  refine wpAny_bind (wpAny_pure (wpAny_bind (wpAny_dictEpoch ho hdat ?_)))
  rw [if_neg (by simp)]
  refine wpAny_pure ?_
  simp only [show ¬ ((i : Int) < 0) from by omega, if_false, Int.toNat_natCast, Array.getElem?_eq_none hi]
  refine wpAny_bind ?_
  first | refine wpAny_bind (wpAny_typeNameOfWhole_keyiter hit.typeIs (wpAny_pure ?_)) | refine wpAny_bind (wpAny_typeNameOf_keyiter hit.typeIs (wpAny_pure ?_))
  refine wpAny_bind (m := setField (.ref it) 0 .none) (wpAny_setField hoi hdi (by simp) ?_)
  refine wpAny_bind (m := newExc (.type "StopIteration") []) ?_
  simp only [newExc, newTuple]
  refine wpAny_bind (wpAny_newObj_type (wpAny_bind (m := firstArgMember _ _) (wpAny_of_eq (a := Value.none) (by first | rfl | (simp only [firstArgMember]; rfl)) (wpAny_newObj_type ?_ (by size_fits)))) (by size_fits))
  simp only [raiseNew]
  refine wpAny_bind (wpAny_handled ?_)
  rw [show A.in1.handled = none from hh]
  refine wpAny_bind (wpAny_pure (wpAny_throw ?_))
  refine wpAny_bind (wpAny_isInstance (T := "StopIteration") (b := true) ⟨_, Heap.get?_push_size _ rfl, rfl⟩ isSubtype_stop (wpAny_pure ?_))
  exact q _ (((Heap.SameBut.update ..).extBut.push _).push _)
end
end L2
set_option Elab.async false
set_option linter.all false
set_option maxRecDepth 100000
set_option maxHeartbeats 4000000
namespace L2
open PySem PySem.Spec PyProof.Rows
def Itd (d : Addr) (o : Obj) (kvs : List (List Key × V)) (bs : List Addr) : It :=
  ⟨fun i H => i < bs.length ∧ H d = some (.frz o (.dT kvs)), fun i H x H' => H' = H ∧ ∃ b, bs[i]? = some b ∧ x = .ref b, fun i H => bs.length ≤ i ∧ H d = some (.frz o (.dT kvs))⟩
theorem turn_dict {P : Program} {w : World} {K : PySem.W.Frag} {tg : Expr} {d it : Addr} {o : Obj} {es : Array DictEntry} {ep : Nat} {kvs : List (List Key × V)} {bs : List Addr} (hd : o.data = .dict es ep) (hb : es.toList.map (·.key) = bs.map Value.ref) :
    Turn P w K tg (Itd d o kvs bs) [it] it (fun i h => h.IsKeyIter it d i es.size ep) where
  mem := by simp
  obj := fun i h st b z => by
    rw [List.mem_singleton.mp z]
    obtain ⟨u, e, _, c⟩ := st
    exact ⟨u, e, fun v y => by rw [c] at y; cases y⟩
  keep := fun i h h' st k => by
    obtain ⟨u, e, c⟩ := st
    exact ⟨u, k it (by simp) u e, c⟩
  item := by
    intro X hP hw hK hc i pins s σ H E I hf st hg
    subst hP hw hK
    obtain ⟨f0, f1, f2, f3, f4, f5⟩ := hf it (by simp)
    have lb : es.size = bs.length := by
      have := congrArg List.length hb
      simpa using this
    have hi : i < es.size := by rw [lb]; exact hg.1
    have od := (I.hok d _ hg.2).1
    refine kiter_item st od hd hi fun h' st' sb => ?_
    have I1 : Inv X pins σ H { s with heap := h' } := I.turned (t' := s.toks) (fun b o hb e => (sb.2 b hb).trans e) f0 f1 f3 f4 f5
    have hib : i < bs.length := hg.1
    have ek : es[i].key = .ref bs[i] := by
      have z := congrArg (fun l => l[i]?) hb
      simp only [List.getElem?_map, Array.getElem?_toList, Array.getElem?_eq_getElem hi, List.getElem?_eq_getElem hib, Option.map_some, Option.some.injEq] at z
      exact z
    obtain ⟨u, e, c, dd⟩ := id st'
    exact ⟨_, rfl, go_of (s := { s with heap := h' }) e c dd (by decide) ⟨.ref bs[i], H, I1, ek, ⟨rfl, bs[i], List.getElem?_eq_getElem hib, rfl⟩, st', fun b z => (hf b z).1⟩⟩
  done := by
    intro X hP hw hK hc i pins s σ H E I hf st hg
    subst hP hw hK
    obtain ⟨f0, f1, f2, f3, f4, f5⟩ := hf it (by simp)
    have lb : es.size = bs.length := by
      have := congrArg List.length hb
      simpa using this
    exact kiter_end (I.ok.hd hc) st (I.hok d _ hg.2).1 hd (by rw [lb]; exact hg.1) fun h' eb => ⟨rfl, I.turned (t' := s.toks) (fun b o z e => eb b o z e) f0 f1 f3 f4 f5⟩
  self := fun A i s Q E st h => wpAny_pyIter_keyiter st h
section
variable {X : Cx} {tg : Expr} {pins : List (Addr × Obj)} {σ : St} {H : Hp} {s : Shared}
theorem Inv.freeze {d : Addr} {o : Obj} {kvs : List (List Key × V)} (I : Inv X pins σ H s) (e : H d = some (.dT kvs)) (ho : s.heap.get? d = some o) : Inv X pins σ (upd H d (.frz o (.dT kvs))) s := by
  have ne : ∀ b u, H b = some u → u ≠ .dT kvs → b ≠ d := fun b u q n z => by rw [z, e] at q; cases q; exact n rfl
  have J := I.step (g' := s.gens) (d' := s.drawn) (t' := s.toks) (h' := s.heap) (H' := upd H d (.frz o (.dT kvs))) (ch := []) (fun _ z => nomatch z) (fun b u _ _ _ q _ => q) (fun b u _ _ _ q _ => ⟨u.slots, q⟩) (fun b u _ _ n => by rw [upd_ne fun z => by rw [z, e] at n; cases n]; exact n)
    (fun b u _ q => ⟨u, q⟩) (fun b xs q => by rw [upd_ne (ne b _ q fun z => nomatch z)]; exact q) (fun b u v q => by rw [upd_ne (ne b _ q fun z => nomatch z)]; exact q) (fun b ps q => ⟨#[], by rw [upd_ne (ne b _ q fun z => nomatch z), q]; simp⟩) (fun m hm => hm) (fun b u q => ?_) I.bare
  · exact J
  · by_cases z : b = d
    · subst z
      rw [upd_same] at q
      cases q
      refine ⟨ho, ((I.hok b _ e).stay (fun c v _ r => r) (fun c r => ?_) fun c xs r => ?_)⟩
      · rw [upd_ne (ne c _ r fun z => nomatch z)]; exact r
      · rw [upd_ne (ne c _ r fun z => nomatch z)]; exact r
    · rw [upd_ne z] at q
      refine (I.hok b u q).stay (fun c v _ r => r) (fun c r => ?_) fun c xs r => ?_
      · rw [upd_ne (ne c _ r fun z => nomatch z)]; exact r
      · rw [upd_ne (ne c _ r fun z => nomatch z)]; exact r
def iDictT (td : TE) : TI := fun σ H R => td σ H fun x H1 => ∃ d kvs, x = .ref d ∧ H1 d = some (.dT kvs) ∧ ∀ o bs, bs.length = kvs.length → (∀ (j : Nat) (b : Addr) (kv : List Key × V), bs[j]? = some b → kvs[j]? = some kv → H1 b = some (.tup (kv.1.map kV))) → R (Itd d o kvs bs) (upd H1 d (.frz o (.dT kvs)))
theorem paired_at {kvs : List (List Key × V)} {xs : List (List Key × Addr × Value)} {H : Hp} : Paired (fun (p : List Key × V) (q : List Key × Addr × Value) => p.1 = q.1 ∧ H q.2.1 = some (.tup (p.1.map kV)) ∧ RelV p.2 q.2.2) kvs xs → ∀ (j : Nat) (b : Addr) (kv : List Key × V), (xs.map fun q => q.2.1)[j]? = some b → kvs[j]? = some kv → H b = some (.tup (kv.1.map kV))
  | .nil, j, b, kv, h, _ => by cases h
  | .cons r t, 0, b, kv, h, h' => by cases h; cases h'; exact r.2.1
  | .cons r t, j + 1, b, kv, h, h' => paired_at t j b kv h h'
theorem pi_dictT {l : Expr} {tl : TE} (hl : PE X l tl) : PI X tg l (iDictT tl) := by
  intro pins s σ H R I h
  refine thn (hl pins s σ H _ I h) fun v s1 ⟨x, H1, I1, r1, q1⟩ => ?_
  obtain ⟨d, kvs, rfl, e, q⟩ := q1
  cases r1
  obtain ⟨z, hd, xs, rel, o, es, ep, ho, hx, hdat, he, _⟩ := I1.hok d _ e
  have hk : es.toList.map (·.key) = (xs.map fun q => q.2.1).map Value.ref := by
    rw [he, List.map_map, List.map_map]
    rfl
  have lb : (xs.map fun q => q.2.1).length = kvs.length := by rw [List.length_map]; exact (Paired.length rel).symm
  have F := I1.freeze e ho
  have nw : ∀ b o', s1.heap.get? b = some o' → (s1.heap.push { cls := .type "dict_keyiterator", data := .fields #[.ref d, .int 0 0, .int es.size 0, .int ep 0] }).get? b = some o' := fun b o' e' => Heap.get?_push_of_some _ e'
  refine kiter_new hd ho hx.1 hdat ⟨s1.heap.objs.size, [s1.heap.objs.size], _, Itd d o kvs (xs.map fun q => q.2.1), _, rfl, F.kept (t' := s1.toks) nw, turn_dict hdat hk, ⟨_, Heap.get?_push_size _ rfl, rfl, rfl⟩, fun b hb => ?_, q o _ lb (paired_at rel)⟩
  rw [List.mem_singleton.mp hb]
  exact F.fpOk (Nat.le_refl _) (F.hok.fresh (Nat.le_refl _))
end
end L2
set_option Elab.async false
set_option linter.all false
set_option maxRecDepth 100000
set_option maxHeartbeats 4000000
namespace L2
open PySem PySem.Spec PyProof.Rows
theorem forW_dict {d : Addr} {o : Obj} {kvs : List (List Key × V)} {bs : List Addr} {g : TG} {tb : TS} {D : Ends} {σ : St} {H : Hp} (Pv : Nat → St → Hp → Prop) (h0 : Pv 0 σ H) (hl : ∀ i σ H, i ≤ bs.length → Pv i σ H → H d = some (.frz o (.dT kvs)))
    (hs : ∀ i b σ H, bs[i]? = some b → Pv i σ H → g (.ref b) σ H fun σ2 H2 => tb { D with nx := Pv (i + 1), ct := Pv (i + 1), bk := D.nx } σ2 H2) (hd : ∀ σ H, Pv bs.length σ H → D.nx σ H) : ForW (Itd d o kvs bs) g tb D σ H := by
  refine ⟨fun i m σ H => m = bs.length - i ∧ i ≤ bs.length ∧ Pv i σ H, ⟨bs.length, by simp, Nat.zero_le _, h0⟩, ?_⟩
  rintro i m σ H ⟨rfl, hi, p⟩
  have q := hl i σ H hi p
  by_cases lt : i < bs.length
  · refine .inr ⟨⟨lt, q⟩, Pv (i + 1), fun σ' H' p' => ⟨bs.length - (i + 1), by omega, rfl, lt, p'⟩, fun x H' y => ?_⟩
    obtain ⟨rfl, b, hb, rfl⟩ := y
    exact hs i b σ _ hb p
  · have e : i = bs.length := by omega
    subst e
    exact .inl ⟨⟨Nat.le_refl _, q⟩, hd σ H p⟩
section
open PySem.SeqAt
open PySem.AutoSeq1 (wpAny_loadPart')
open PySem.MeetsSeq PySem.MeetsSeq2 PySem.MeetsSeq3
theorem extendT (l b : Addr) (items items2 : Array Value) (n n2 : Nat) (dd : Option Addr) (sl : Array (Option Value)) (hs0 : ¬ (!items.isEmpty && Builtin.List.listTooLong (items.size + items2.size)) = true) (hs1 : items.size ≤ sizeLine) (hs2 : items.size + items2.size ≤ sizeLine + 1) :
    Meets (Builtin.«list.extend» ⟨[.ref l, .ref b], []⟩)
      (fun _ R s => s.heap.get? l = some { cls := .type "list", dict := none, data := .seq items n, slots := #[] } ∧ s.heap.get? b = some { cls := .type "tuple", dict := dd, data := .seq items2 n2, slots := sl } ∧ R (.ok (.ret Value.none)) { s with heap := s.heap.update l (Obj.mapSeq fun x => x ++ items2), toks := s.toks }) :=
  .of_wp fun prog w A R s h => by
    obtain ⟨hp, g, d, tk, os⟩ := s
    obtain ⟨hl, hb, h⟩ := h
    have f5 := AutoSeq1.sub_list_tuple
    have f3 := AutoSeq1.sub_list_list
    have zz : (items ++ items2).size ≤ sizeLine + 1 := by rw [Array.size_append]; exact hs2
    wp_walk using (wpAny_updateSeq hl rfl (hz := hs1) (_hz' := zz)), wpAny_loadPart' hl, wpAny_loadPart' hb
    exact ⟨_, rfl, h⟩
end
section
variable {X : Cx}
def rExtT : V → List V → Hp → VK → Prop := fun x vs H Q => ∃ l b xs zs, x = .ref l ∧ vs = [.ref b] ∧ H l = some (.lst xs) ∧ H b = some (.tup zs) ∧ xs.length + zs.length ≤ sizeLine ∧ Q .non (upd H l (.lst (xs ++ zs)))
theorem mt_extT : MtM X "list.extend" rExtT := by
  intro pins s σ H x vs v us Q I rx rv h
  obtain ⟨l, b, xs, zs, rfl, rfl, hH, hB, hz, q⟩ := h
  cases rx
  obtain ⟨u, rfl, ru⟩ := rv.one
  cases ru
  obtain ⟨z, its, n, r, hl, e⟩ := I.lstM hH
  obtain ⟨its2, r2, ⟨⟨cls, dd, data, sl⟩, e2, hc, n2, hd⟩, _⟩ := I.tuple (.of hB)
  simp only at hc hd
  subst hc hd
  have l2 := r2.length
  have hsz : its.toArray.size + its2.toArray.size ≤ sizeLine := by rw [List.size_toArray, List.size_toArray]; omega
  have hlong : ¬ (!its.toArray.isEmpty && Builtin.List.listTooLong (its.toArray.size + its2.toArray.size)) = true := by rw [notLongL hsz, Bool.and_false]; decide
  refine call_meets PySem.F.slot_list_extend ⟨_, e, rfl⟩ PySem.F.entry_list_extend (PySem.F.args_list_extend_2 _ _) (extendT l b its.toArray its2.toArray n n2 dd sl hlong (by rw [List.size_toArray]; omega) (by omega)) ⟨e, e2, .non, _, I.lset (its' := its ++ its2) hH e (by simp) (r.append r2) (by rw [List.length_append]; omega), rfl, q⟩
end
end L2
set_option Elab.async false
set_option linter.all false
set_option maxRecDepth 100000
set_option maxHeartbeats 4000000
namespace L2
open PySem PySem.Spec PyProof.Rows
open PySem.W (kas_sort kas_ask)
def ltL : List (Int × Int) → List (Int × Int) → Bool
  | [], ys => decide (0 < ys.length)
  | _ :: _, [] => false
  | x :: xs, y :: ys => if x = y then ltL xs ys else HT.lexLt [x.1, x.2] [y.1, y.2]
def LstI (h : Heap) (v : Value) (ns : List (Int × Int)) : Prop := ∃ (a : Addr) (its : List Value) (n : Nat), v = .ref a ∧ h.get? a = some (seqObj "list" its.toArray n) ∧ its.length = ns.length ∧ ∀ (i : Nat) (u : Value) (k : Int × Int), its[i]? = some u → ns[i]? = some k → TupI h u [k.1, k.2]
section
variable {prog : Program} {w : World} {A : Around} {E : Value → Shared → Prop} {s : Shared} {R : Result → Shared → Prop}
theorem rc_pair {x y : Value} {k l : Int × Int} {Q : Value → Shared → Prop} (hx : TupI s.heap x [k.1, k.2]) (hy : TupI s.heap y [l.1, l.2]) (hu : A.units + 64 < cLine) (q : Q (.bool (HT.lexLt [k.1, k.2] [l.1, l.2])) s) : wpAny (model prog w) A (richCompare .Lt x y) Q E s := by
  obtain ⟨a, its, n, dd, sl, rfl, o, i⟩ := hx
  obtain ⟨b, its2, n2, dd2, sl2, rfl, o2, i2⟩ := hy
  exact richCompare_meets_room (op := .Lt) ⟨_, o, rfl⟩ ⟨_, o2, rfl⟩ PySem.F.slot_tuple_lt PySem.F.entry_tuple_lt (PySem.F.args_tuple_lt_2 _ _) (tupleLt a b its its2 n n2 dd dd2 sl sl2 [k.1, k.2] [l.1, l.2] rfl i i2) ⟨o, o2, (fun z => nomatch z), q⟩ (by omega)
theorem ll_loop {a b : Addr} {xs ys : List Value} {n m : Nat} {ns ms : List (Int × Int)} (hu : A.units + 70 < cLine) (ha : s.heap.get? a = some (seqObj "list" xs.toArray n)) (hb : s.heap.get? b = some (seqObj "list" ys.toArray m)) (lx : xs.length = ns.length) (ly : ys.length = ms.length)
    (tx : ∀ (i : Nat) (u : Value) (k : Int × Int), xs[i]? = some u → ns[i]? = some k → TupI s.heap u [k.1, k.2]) (ty : ∀ (i : Nat) (u : Value) (k : Int × Int), ys[i]? = some u → ms[i]? = some k → TupI s.heap u [k.1, k.2]) :
    ∀ (f i : Nat), ns.length - i = f → i ≤ ns.length → i ≤ ms.length → R (.ok (.ret (.bool (ltL (ns.drop i) (ms.drop i))))) s → codeAny (model prog w) A (.builtin "list.__eq__.loop" ⟨[.ref a, .ref b, rawInt (i : Int), rawInt 0], []⟩) R s := by
  have fin : ∀ i : Nat, i ≤ ns.length → i ≤ ms.length → (ns.length = i ∨ ms.length = i) → ltL (ns.drop i) (ms.drop i) = decide (xs.length < ys.length) := fun i h1 h2 h3 => by
    rcases h3 with h3 | h3
    · rw [List.drop_of_length_le (by omega), ltL, List.length_drop]
      exact decide_eq_decide.mpr (by omega)
    · rw [List.drop_of_length_le (l := ms) (by omega)]
      cases e : ns.drop i with
      | nil =>
        have := List.drop_eq_nil_iff.mp e
        rw [ltL]
        exact decide_eq_decide.mpr (by simp; omega)
      | cons k r =>
        rw [ltL]
        have : i < ns.length := by
          rcases Nat.lt_or_ge i ns.length with z | z
          · exact z
          · rw [List.drop_of_length_le z] at e; cases e
        exact (decide_eq_false (by omega)).symm
  intro f
  induction f with
  | zero =>
    intro i hf h1 h2 q
    have e : ns.length = i := by omega
    refine codeAny_builtin MeetsSeq3.entry_eq_loop ?_
    rw [Around.under_plainId MeetsSeq3.plain_eq_loop _]
    rw [fin i h1 h2 (.inl e)] at q
    have gx : xs[i]? = none := List.getElem?_eq_none (by omega)
    refine wpAny_bind (listItems_at ha rfl (wpAny_bind (listItems_at hb rfl ?_)))
    simp only [rawInt, Int.toNat_natCast, List.getElem?_toArray, gx]
    exact wpAny_bind (listItems_at ha rfl (wpAny_bind (listItems_at hb rfl (wpAny_pure q))))
  | succ f ih =>
    intro i hf h1 h2 q
    refine codeAny_builtin MeetsSeq3.entry_eq_loop ?_
    rw [Around.under_plainId MeetsSeq3.plain_eq_loop _]
    have li : i < xs.length := by omega
    have gx : xs[i]? = some xs[i] := List.getElem?_eq_getElem li
    refine wpAny_bind (listItems_at ha rfl (wpAny_bind (listItems_at hb rfl ?_)))
    by_cases hy : ms.length = i
    · rw [fin i h1 h2 (.inr hy)] at q
      have gy : ys[i]? = none := List.getElem?_eq_none (by omega)
      simp only [rawInt, Int.toNat_natCast, List.getElem?_toArray, gx, gy]
      exact wpAny_bind (listItems_at ha rfl (wpAny_bind (listItems_at hb rfl (wpAny_pure q))))
    · have lj : i < ys.length := by omega
      have gy : ys[i]? = some ys[i] := List.getElem?_eq_getElem lj
      have gn : ns[i]? = some ns[i] := List.getElem?_eq_getElem (by omega)
      have gm : ms[i]? = some ms[i] := List.getElem?_eq_getElem (by omega)
      have dx : ns.drop i = ns[i] :: ns.drop (i + 1) := List.drop_eq_getElem_cons (by omega)
      have dy : ms.drop i = ms[i] :: ms.drop (i + 1) := List.drop_eq_getElem_cons (by omega)
      rw [dx, dy, ltL] at q
      have t1 := tx i _ _ gx gn
      have t2 := ty i _ _ gy gm
      simp only [rawInt, Int.toNat_natCast, List.getElem?_toArray, gx, gy]
      refine wpAny_bind (eq_tupI t1 t2 (by show A.units + 1 + 64 < _; omega) ?_)
      by_cases e : ns[i] = ms[i]
      · rw [if_pos e] at q
        rw [decide_eq_true (by rw [e])]
        simp only [if_true]
        have z := ih (i + 1) (by omega) (by omega) (by omega) q
        exact wpAny_pure ⟨plainId_quiet MeetsSeq3.plain_eq_loop _, by simpa [rawInt] using z⟩
      · rw [if_neg e] at q
        have ne : ¬ [ns[i].1, ns[i].2] = [ms[i].1, ms[i].2] := fun z => by
          simp only [List.cons.injEq, and_true] at z
          exact e (Prod.ext z.1 z.2)
        rw [decide_eq_false ne]
        simp only [Bool.false_eq_true, if_false]
        refine wpAny_bind (listItems_at ha rfl (wpAny_bind (listItems_at hb rfl ?_)))
        simp only [List.getElem?_toArray, gx, gy]
        exact wpAny_bind (rc_pair t1 t2 (by show A.units + 1 + 64 < _; omega) (wpAny_pure q))
end
end L2
set_option Elab.async false
set_option linter.all false
set_option maxRecDepth 100000
set_option maxHeartbeats 4000000
namespace L2
open PySem PySem.Spec PyProof.Rows
open PySem.W (kas_sort kas_ask)
theorem listLt (a b : Addr) : Meets (Builtin.«list.__lt__» ⟨[.ref a, .ref b], []⟩) (fun A R s => A.units + 70 < cLine ∧ ∃ (xs ys : List Value) (n m : Nat) (ns ms : List (Int × Int)), s.heap.get? a = some (seqObj "list" xs.toArray n) ∧ s.heap.get? b = some (seqObj "list" ys.toArray m) ∧ xs.length = ns.length ∧ ys.length = ms.length ∧
    (∀ (i : Nat) (u : Value) (k : Int × Int), xs[i]? = some u → ns[i]? = some k → TupI s.heap u [k.1, k.2]) ∧ (∀ (i : Nat) (u : Value) (k : Int × Int), ys[i]? = some u → ms[i]? = some k → TupI s.heap u [k.1, k.2]) ∧ R (.ok (.ret (.bool (ltL ns ms)))) s) := by
  intro prog w A R s h
  obtain ⟨hu, xs, ys, n, m, ns, ms, ha, hb, lx, ly, tx, ty, q⟩ := h
  refine wpAny_bind (m := isInstance (.ref b) (.type "list")) (wpAny_isInstance (T := "list") (b := true) ⟨_, hb, rfl⟩ AutoSeq1.sub_list_list ?_)
  exact wpAny_pure ⟨plainId_quiet MeetsSeq3.plain_eq_loop _, ll_loop (i := 0) hu ha hb lx ly tx ty _ rfl (Nat.zero_le _) (Nat.zero_le _) q⟩
section
variable {prog : Program} {w : World} {A : Around} {E : Value → Shared → Prop} {s : Shared} {C : Bool → Shared → Prop}
theorem lt_lst {x y : Value} {ns ms : List (Int × Int)} (hx : LstI s.heap x ns) (hy : LstI s.heap y ms) (hu : A.units + 70 < cLine) (q : C (ltL ns ms) s) : wpAny (model prog w) A (keyLt' oneType' x y) C E s := by
  obtain ⟨a, xs, n, rfl, ha, lx, tx⟩ := hx
  obtain ⟨b, ys, m, rfl, hb, ly, ty⟩ := hy
  rw [keyLt'_oneType, oneLt'_eq]
  simp only [if_true]
  refine wpAny_bind (wpAny_cRoomFor (by omega) (wpAny_bind (wpAny_callSpecialIfBound?_slot ⟨_, ha, rfl⟩ PySem.F.slot_list_lt (call_meets PySem.F.slot_list_lt ⟨_, ha, rfl⟩ PySem.F.entry_list_lt (PySem.F.args_list_lt_2 _ _) (listLt a b) ⟨hu, xs, ys, n, m, ns, ms, ha, hb, lx, ly, tx, ty, ?_⟩))))
  exact wpAny_truthy_bool q
theorem kind_lsts {M : Model} {vs : List Value} {Q : SortKind → Shared → Prop} (h2 : 2 ≤ vs.length) (hv : ∀ v, v ∈ vs → ∃ ns, LstI s.heap v ns) (q : Q oneType' s) : wpAny M A (keyKind' vs.toArray) Q E s := by
  refine PySem.W.kas_kind (T := .type "list") h2 (fun v h => ?_) (by decide) (by decide) q
  obtain ⟨ns, a, its, n, rfl, o, _⟩ := hv v h
  exact (PySem.W.Looks.ld o).andThen .now
end
end L2
set_option Elab.async false
set_option linter.all false
set_option maxRecDepth 100000
set_option maxHeartbeats 4000000
namespace L2
open PySem PySem.Spec PyProof.Rows
open PySem.W (KasT kas_asc kas_desc kas_rev kas_tail3 kas_descPart kas_count kas_place kas_bin kas_sort)
structure Tot (n : Nat) (ans : Nat → Nat → Bool) : Prop where
  irr : ∀ i, ans i i = false
  tr : ∀ i j k, ans i j = true → ans j k = true → ans i k = true
  tot : ∀ i j, i < n → j < n → i ≠ j → ans i j = true ∨ ans j i = true
def Up (ans : Nat → Nat → Bool) (p : Array Nat) (m : Nat) : Prop := ∀ i j, i < j → j < m → ans (p.getD i 0) (p.getD j 0) = true
def Down (ans : Nat → Nat → Bool) (p : Array Nat) (m : Nat) : Prop := ∀ i j, i < j → j < m → ans (p.getD j 0) (p.getD i 0) = true
theorem ansT_bind {α β : Type} {ans : Nat → Nat → Bool} {f : α → KasT β} : ∀ t : KasT α, ansT ans (t.bind f) = ansT ans (f (ansT ans t))
  | .ret _ => rfl
  | .ask i j k => ansT_bind (k (ans i j))
section
variable {n : Nat} {ans : Nat → Nat → Bool}
theorem Ord.ne {p : Array Nat} (h : Ord n p) {i j : Nat} (hij : i < j) (hj : j < n) : p.getD i 0 ≠ p.getD j 0 := by
  have z : p.size = n := by have := h.length_eq; simpa using this
  have nd : p.toList.Nodup := h.nodup_iff.mpr List.nodup_range
  have e1 : p.getD i 0 = p.toList[i]'(by simp; omega) := by simp [Array.getD, show i < p.size by omega]
  have e2 : p.getD j 0 = p.toList[j]'(by simp; omega) := by simp [Array.getD, show j < p.size by omega]
  rw [e1, e2]
  exact (List.pairwise_iff_getElem.mp nd) i j _ _ hij
theorem Tot.fl (T : Tot n ans) {p : Array Nat} (h : Ord n p) {i j : Nat} (hij : i < j) (hj : j < n) (hf : ans (p.getD j 0) (p.getD i 0) = false) : ans (p.getD i 0) (p.getD j 0) = true := by
  rcases T.tot _ _ (h.get (by omega) i) (h.get (by omega) j) (h.ne hij hj) with z | z
  · exact z
  · rw [hf] at z; cases z
theorem Up.step (T : Tot n ans) {p : Array Nat} {m : Nat} (u : Up ans p m) (h : ∀ i, i + 1 = m → ans (p.getD i 0) (p.getD m 0) = true) : Up ans p (m + 1) := fun i j hij hj => by
  by_cases z : j < m
  · exact u i j hij z
  · have e : j = m := by omega
    subst e
    by_cases y : i + 1 = j
    · exact h i y
    · exact T.tr _ _ _ (u i (j - 1) (by omega) (by omega)) (h (j - 1) (by omega))
theorem Down.step (T : Tot n ans) {p : Array Nat} {m : Nat} (u : Down ans p m) (h : ∀ i, i + 1 = m → ans (p.getD m 0) (p.getD i 0) = true) : Down ans p (m + 1) := fun i j hij hj => by
  by_cases z : j < m
  · exact u i j hij z
  · have e : j = m := by omega
    subst e
    by_cases y : i + 1 = j
    · exact h i y
    · exact T.tr _ _ _ (h (j - 1) (by omega)) (u i (j - 1) (by omega) (by omega))
theorem up_asc (T : Tot n ans) {p : Array Nat} (h : Ord n p) : ∀ f m, 1 ≤ m → m + f = n → Up ans p m → m ≤ ansT ans (kas_asc p f m) ∧ ansT ans (kas_asc p f m) ≤ n ∧ Up ans p (ansT ans (kas_asc p f m)) ∧ (ansT ans (kas_asc p f m) < n → ans (p.getD (ansT ans (kas_asc p f m)) 0) (p.getD (ansT ans (kas_asc p f m) - 1) 0) = true)
  | 0, m, h1, hm, u => ⟨Nat.le_refl _, by show m ≤ n; omega, u, fun z => by have : m < n := z; omega⟩
  | f + 1, m, h1, hm, u => by
    have e : ansT ans (kas_asc p (f + 1) m) = ansT ans (if ans (p.getD m 0) (p.getD (m - 1) 0) = true then .ret m else kas_asc p f (m + 1)) := rfl
    rw [e]
    cases c : ans (p.getD m 0) (p.getD (m - 1) 0) with
    | true => rw [if_pos rfl]; exact ⟨Nat.le_refl _, by show m ≤ n; omega, u, fun _ => c⟩
    | false =>
      rw [if_neg (by decide)]
      obtain ⟨a1, a2, a3⟩ := up_asc T h f (m + 1) (by omega) (by omega) (u.step T fun i hi => by
        have e : m - 1 = i := by omega
        rw [e] at c
        exact T.fl h (by omega) (by omega) c)
      exact ⟨by omega, a2, a3⟩
theorem down_desc (T : Tot n ans) {p : Array Nat} (h : Ord n p) : ∀ f m, 1 ≤ m → m + f = n → Down ans p m → ∃ m', ansT ans (kas_desc f p m 0) = (p, m', 0) ∧ m ≤ m' ∧ m' ≤ n ∧ Down ans p m'
  | 0, m, h1, hm, u => ⟨m, rfl, Nat.le_refl _, by omega, u⟩
  | f + 1, m, h1, hm, u => by
    have e : ansT ans (kas_desc (f + 1) p m 0) = ansT ans (if ans (p.getD m 0) (p.getD (m - 1) 0) = true then (if 0 > 0 then kas_desc f (kas_rev p (m - (0 + 1)) m) (m + 1) 0 else kas_desc f p (m + 1) 0)
      else .ask (p.getD (m - 1) 0) (p.getD m 0) fun d => if d = true then .ret (p, m, 0) else kas_desc f p (m + 1) (0 + 1)) := rfl
    rw [e]
    cases c : ans (p.getD m 0) (p.getD (m - 1) 0) with
    | true =>
      rw [if_pos rfl, if_neg (by decide)]
      obtain ⟨m', a1, a2, a3⟩ := down_desc T h f (m + 1) (by omega) (by omega) (u.step T fun i hi => by
        have e : m - 1 = i := by omega
        rw [e] at c
        exact c)
      exact ⟨m', a1, by omega, a3⟩
    | false =>
      rw [if_neg (by decide)]
      have y := T.fl h (i := m - 1) (j := m) (by omega) (by omega) c
      show ∃ m', ansT ans (if ans (p.getD (m - 1) 0) (p.getD m 0) = true then .ret (p, m, 0) else kas_desc f p (m + 1) (0 + 1)) = _ ∧ _
      rw [y, if_pos rfl]
      exact ⟨m, rfl, Nat.le_refl _, by omega, u⟩
theorem rev_getD {p : Array Nat} {m : Nat} (hm : m ≤ p.size) {k : Nat} (hk : k < m) : (kas_rev p 0 m).getD k 0 = p.getD (m - 1 - k) 0 := by
  have e : (kas_rev p 0 m)[k]? = p[m - 1 - k]? := by
    unfold kas_rev
    rw [getElem?_mirror_all hm, if_pos (by omega)]
    congr 1
    omega
  rw [Array.getD_eq_getD_getElem?, Array.getD_eq_getD_getElem?, e]
theorem up_count (T : Tot n ans) (hn : 0 < n) {p : Array Nat} (h : Ord n p) : ∃ m p', ansT ans (kas_count n p) = (m, p') ∧ 1 ≤ m ∧ m ≤ n ∧ Up ans p' m := by
  have u1 : Up ans p 1 := fun i j hij hj => by omega
  have z : p.size = n := by have := h.length_eq; simpa using this
  obtain ⟨a1, a2, a3, a4⟩ := up_asc T h (n - 1) 1 (Nat.le_refl _) (by omega) u1
  unfold kas_count
  rw [ansT_bind]
  generalize ansT ans (kas_asc p (n - 1) 1) = m at a1 a2 a3 a4 ⊢
  by_cases c1 : m = n
  · subst c1
    simp only [beq_self_eq_true, if_true]
    exact ⟨m, p, rfl, a1, a2, a3⟩
  · have c1' : (m == n) = false := beq_eq_false_iff_ne.mpr c1
    simp only [c1', Bool.false_eq_true, if_false]
    by_cases c2 : m > 1
    · rw [if_pos c2]
      have y := a3 0 (m - 1) (by omega) (by omega)
      show ∃ m' p', ansT ans (if ans (p.getD 0 0) (p.getD (m - 1) 0) = true then .ret (m, p) else kas_descPart m n (kas_rev p 0 m)) = _ ∧ _
      rw [y, if_pos rfl]
      exact ⟨m, p, rfl, a1, a2, a3⟩
    · have e : m = 1 := by omega
      subst e
      rw [if_neg c2]
      have y := a4 (by omega)
      have d2 : Down ans p (1 + 1) := fun i j hij hj => by
        have e1 : i = 0 := by omega
        have e2 : j = 1 := by omega
        subst e1 e2
        exact y
      obtain ⟨m', b1, b2, b3, b4⟩ := down_desc T h (n - (1 + 1)) (1 + 1) (by omega) (by omega) d2
      unfold kas_descPart
      rw [ansT_bind, b1]
      simp only [gt_iff_lt, Nat.lt_irrefl, if_false]
      unfold kas_tail3
      rw [ansT_bind]
      have o2 : Ord n (kas_rev p 0 m') := h.rev _ _
      have u2 : Up ans (kas_rev p 0 m') m' := fun i j hij hj => by
        rw [rev_getD (by omega) (by omega), rev_getD (by omega) (by omega)]
        exact b4 _ _ (by omega) (by omega)
      obtain ⟨g1, g2, g3, g4⟩ := up_asc T o2 (n - m') m' (by omega) (by omega) u2
      exact ⟨_, _, rfl, by omega, g2, g3⟩
theorem place_up (T : Tot n ans) {p : Array Nat} (h : Ord n p) {k : Nat} (hk : k < n) (u : Up ans p k) : ∀ f l r, l ≤ r → r ≤ k → r - l ≤ f → (∀ i, i < l → ans (p.getD i 0) (p.getD k 0) = true) → (∀ i, r ≤ i → i < k → ans (p.getD k 0) (p.getD i 0) = true) →
    ∃ l', ansT ans (kas_place p k f l r) = l' ∧ l' ≤ k ∧ (∀ i, i < l' → ans (p.getD i 0) (p.getD k 0) = true) ∧ (∀ i, l' ≤ i → i < k → ans (p.getD k 0) (p.getD i 0) = true)
  | 0, l, r, h1, h2, h3, hl, hr => ⟨l, rfl, by omega, hl, fun i a b => hr i (by omega) b⟩
  | f + 1, l, r, h1, h2, h3, hl, hr => by
    unfold kas_place
    by_cases c : l ≥ r
    · rw [if_pos c]; exact ⟨l, rfl, by omega, hl, fun i a b => hr i (by omega) b⟩
    · rw [if_neg c]
      show ∃ l', ansT ans (if ans (p.getD k 0) (p.getD ((l + r) / 2) 0) = true then kas_place p k f l ((l + r) / 2) else kas_place p k f ((l + r) / 2 + 1) r) = l' ∧ _
      have m1 : l ≤ (l + r) / 2 := by omega
      have m2 : (l + r) / 2 < r := by omega
      cases e : ans (p.getD k 0) (p.getD ((l + r) / 2) 0) with
      | true =>
        rw [if_pos rfl]
        refine place_up T h hk u f l _ m1 (by omega) (by omega) hl fun i a b => ?_
        by_cases y : i = (l + r) / 2
        · rw [y]; exact e
        · exact T.tr _ _ _ e (u _ _ (by omega) b)
      | false =>
        rw [if_neg (by decide)]
        have y := T.fl h (i := (l + r) / 2) (j := k) (by omega) hk e
        refine place_up T h hk u f _ r (by omega) h2 (by omega) (fun i a => ?_) hr
        by_cases x : i = (l + r) / 2
        · rw [x]; exact y
        · exact T.tr _ _ _ (u i ((l + r) / 2) (by omega) (by omega)) y
theorem bub_getD {p : Array Nat} {k l : Nat} (hk : k < p.size) (hl : l ≤ k) (i : Nat) : (bubble p k (k - l)).getD i 0 = if i = l then p.getD k 0 else if l < i ∧ i ≤ k then p.getD (i - 1) 0 else p.getD i 0 := by
  have e := getElem?_bubble hk (k - l) (by omega) i
  have x : k - (k - l) = l := by omega
  rw [x] at e
  rw [Array.getD_eq_getD_getElem?, e]
  by_cases c1 : i = l
  · rw [if_pos c1, if_pos c1, Array.getD_eq_getD_getElem?]
  · rw [if_neg c1, if_neg c1]
    by_cases c2 : l < i ∧ i ≤ k
    · rw [if_pos c2, if_pos c2, Array.getD_eq_getD_getElem?]
    · rw [if_neg c2, if_neg c2, Array.getD_eq_getD_getElem?]
theorem up_bin (T : Tot n ans) : ∀ f (p : Array Nat) k, Ord n p → 1 ≤ k → k + f = n → Up ans p k → Up ans (ansT ans (kas_bin f p k)) n
  | 0, p, k, h, h1, hk, u => by have e : k = n := by omega
                                subst e; exact u
  | f + 1, p, k, h, h1, hk, u => by
    have z : p.size = n := by have := h.length_eq; simpa using this
    unfold kas_bin
    rw [ansT_bind]
    obtain ⟨l, e, a1, a2, a3⟩ := place_up T h (k := k) (by omega) u k 0 k (Nat.zero_le _) (Nat.le_refl _) (by omega) (fun i hi => by omega) (fun i a b => by omega)
    rw [e]
    refine up_bin T f _ (k + 1) (h.of (bubble_perm _ _ _)) (by omega) (by omega) fun i j hij hj => ?_
    rw [bub_getD (by omega) a1, bub_getD (by omega) a1]
    by_cases c1 : i = l
    · rw [if_pos c1, if_neg (by omega), if_pos (by omega)]
      exact a3 _ (by omega) (by omega)
    · rw [if_neg c1]
      by_cases c2 : l < i ∧ i ≤ k
      · rw [if_pos c2, if_neg (by omega), if_pos (by omega)]
        exact u _ _ (by omega) (by omega)
      · rw [if_neg c2]
        by_cases c3 : j = l
        · rw [if_pos c3]; exact a2 _ (by omega)
        · rw [if_neg c3]
          by_cases c4 : l < j ∧ j ≤ k
          · rw [if_pos c4]
            exact u _ _ (by omega) (by omega)
          · rw [if_neg c4]
            exact u _ _ (by omega) (by omega)
theorem up_sort (T : Tot n ans) (hn : 0 < n) : Up ans (ansT ans (kas_sort n)) n := by
  have o0 : Ord n (List.toArray (List.range n)) := by unfold Ord; simp
  obtain ⟨m, p, e, m1, m2, u⟩ := up_count T hn o0
  have o1 : Ord n (m, p).2 := by
    rw [← e]
    exact Asks.ends (asks_count hn o0)
  unfold kas_sort
  rw [ansT_bind, e]
  by_cases c : m < n
  · simp only [c, if_true]
    have x : max m 1 = m := by omega
    rw [x]
    exact up_bin T (n - m) p m o1 m1 (by omega) u
  · simp only [c, if_false]
    have x : m = n := by omega
    subst x
    exact u
end
end L2
set_option Elab.async false
set_option linter.all false
set_option maxRecDepth 100000
set_option maxHeartbeats 4000000
namespace L2
open PySem PySem.Spec PyProof.Rows
open PySem.W (kas_sort kas_ask)
def LsI (H : Hp) (v : V) (ns : List (Int × Int)) : Prop := ∃ (q : Addr) (qs : List V), v = .ref q ∧ H q = some (.lst qs) ∧ qs.length = ns.length ∧ ∀ (j : Nat) (k : Int × Int), ns[j]? = some k → ∃ b, qs[j]? = some (.ref b) ∧ H b = some (.tup [.int k.1, .int k.2])
def KPl : KPT := fun H zs ans => ∃ kp : Nat → List (Int × Int), (∀ i, i < zs.length → LsI H (zs.getD i .non) (kp i)) ∧ ans = fun i j => ltL (kp i) (kp j)
section
variable {X : Cx} {pins : List (Addr × Obj)} {σ : St} {H : Hp} {s : Shared}
theorem lstI_of (I : Inv X pins σ H s) {v : V} {u : Value} {ns : List (Int × Int)} (h : LsI H v ns) (r : RelV v u) : LstI s.heap u ns := by
  obtain ⟨q, qs, rfl, hq, hl, he⟩ := h
  cases (show u = Value.ref q from r)
  obtain ⟨z, its, n, rv, hlen, e⟩ := I.lstM hq
  refine ⟨q, its, n, rfl, e, by rw [← rv.length]; exact hl, fun i u k hu hk => ?_⟩
  obtain ⟨b, hb, hH⟩ := he i k hk
  obtain ⟨v, hv, rr⟩ := vals_get? rv hu
  rw [hb] at hv
  cases hv
  cases (show u = Value.ref b from rr)
  exact tupI_of I (ns := [k.1, k.2]) hH
theorem keyKP_lsts (hu : X.A.units + 80 < cLine) : KeyKP X KPl := by
  intro pins σ H s zs ks ans I r h
  obtain ⟨kp, ok, rfl⟩ := h
  have len := r.length
  have lst : ∀ i, i < ks.length → LstI s.heap (ks.getD i Value.none) (kp i) := fun i hi => lstI_of I (ok i (by omega)) (vals_at r i (by omega))
  refine ⟨oneType', fun h2 Q' q' => kind_lsts h2 (fun v hv => ?_) q', fun h2 i j C hi hj cc => lt_lst (lst i hi) (lst j hj) (by show X.A.units + 1 + 1 + 70 < _; omega) cc⟩
  obtain ⟨i, hi, e⟩ := List.mem_iff_getElem.mp hv
  refine ⟨kp i, ?_⟩
  have t := lst i hi
  have e' : ks.getD i Value.none = v := by simp [hi, e]
  rw [e'] at t
  exact t
end
def FeD (H : Hp) (v : V) (d : List Int × List Int) : Prop := ∃ (p a b : Addr) (x1 y1 w1 x2 y2 w2 : Int), d = ([x1, y1, w1], [x2, y2, w2]) ∧ v = .ref p ∧ H p = some (.tup [.ref a, .ref b]) ∧ H a = some (.tup [.int x1, .int y1, .int w1]) ∧ H b = some (.tup [.int x2, .int y2, .int w2])
def RoD (H : Hp) (v : V) (d : List Int × List Int) : Prop := ∃ (p a b : Addr) (x1 y1 w1 x2 y2 w2 : Int) (l r : Bool), d = ([x1, y1, w1], [x2, y2, w2]) ∧ v = .ref p ∧ H p = some (.tup [.ref a, .ref b, .bl l, .bl r]) ∧ H a = some (.tup [.int x1, .int y1, .int w1]) ∧ H b = some (.tup [.int x2, .int y2, .int w2])
def rSortO (R : Hp → V → List Int × List Int → Prop) : List V → Hp → VK → Prop := fun xs H Q => ∃ (l : Addr) (vs : List V) (d : Nat → List Int × List Int), xs = [.ref l] ∧ H l = some (.lst vs) ∧ vs.length < 64 ∧ (∀ i, i < vs.length → R H (vs.getD i .non) (d i)) ∧ (∀ i j, i < vs.length → j < vs.length → d i = d j → i = j) ∧
  ∀ D p, H D = none → Ord vs.length p → (2 ≤ vs.length → p = ansT (fun i j => ltP (d i) (d j)) (kas_sort vs.length)) → Q (.ref D) (upd H D (.lst (p.toList.map fun i => vs.getD i .non)))
def TupR (h : Heap) (v : Value) (ns ms : List Int) (l r : Bool) : Prop := ∃ (a : Addr) (x y : Value) (n : Nat) (dd : Option Addr) (sl : Array (Option Value)), v = .ref a ∧ h.get? a = some { cls := .type "tuple", dict := dd, data := .seq #[x, y, .bool l, .bool r] n, slots := sl } ∧ TupI h x ns ∧ TupI h y ms
theorem TupR.keeps {g h : Heap} {v : Value} {ns ms : List Int} {l r : Bool} (t : TupR g v ns ms l r) (k : Keeps g h) : TupR h v ns ms l r := by
  obtain ⟨a, x, y, n, dd, sl, e, o, i, j⟩ := t
  exact ⟨a, x, y, n, dd, sl, e, k _ _ o, i.keeps k, j.keeps k⟩
section
variable {prog : Program} {w : World} {A : Around} {E : Value → Shared → Prop} {s : Shared} {C : Bool → Shared → Prop}
theorem eq_bb {a b : Bool} (hu : A.units + 64 < cLine) (q : C (decide (a = b)) s) : wpAny (model prog w) A (eqBool (.bool a) (.bool b)) C E s := by
  refine PySem.SeqAt.eqBoolOverData prog w A E s _ _ (.bool a) (.bool b) _ _ C (.bool a) (.bool b) rfl rfl ?_ ?_
  · have : PyData.depth (.bool a) ≤ 1 := by simp [PyData.depth]
    have := Nat.min_le_left (PyData.depth (.bool a)) (PyData.depth (.bool b))
    omega
  · have e : PyData.eqv (.bool a) (.bool b) = decide (a = b) := by cases a <;> cases b <;> simp [PyData.eqv]
    rw [e]
    exact q
theorem lt_tupR {x y : Value} {a b : List Int × List Int} {l r l' r' : Bool} (hx : TupR s.heap x a.1 a.2 l r) (hy : TupR s.heap y b.1 b.2 l' r') (l1 : a.1.length = b.1.length) (l2 : a.2.length = b.2.length) (hs : a = b → l = l' ∧ r = r') (hu : A.units + 64 < cLine) (q : C (ltP a b) s) : wpAny (model prog w) A (keyLt' (tuples' false) x y) C E s := by
  obtain ⟨p, x1, x2, n, dd, sl, rfl, o, i1, i2⟩ := hx
  obtain ⟨p', y1, y2, n', dd', sl', rfl, o', j1, j2⟩ := hy
  unfold ltP at q
  refine PySem.W.kat_lt o rfl o' rfl (PySem.W.kat_cons (eq_tupI i1 j1 hu ?_))
  by_cases c : a.1 = b.1
  · rw [if_pos c] at q
    rw [decide_eq_true c]
    refine PySem.W.kat_yes (PySem.W.kat_cons (eq_tupI i2 j2 hu ?_))
    by_cases c2 : a.2 = b.2
    · rw [if_pos c2] at q
      rw [decide_eq_true c2]
      obtain ⟨e1, e2⟩ := hs (Prod.ext c c2)
      subst e1 e2
      refine PySem.W.kat_yes (PySem.W.kat_cons (eq_bb hu ?_))
      rw [decide_eq_true rfl]
      refine PySem.W.kat_yes (PySem.W.kat_cons (eq_bb hu ?_))
      rw [decide_eq_true rfl]
      exact PySem.W.kat_yes (PySem.W.kat_nil q)
    · rw [if_neg c2] at q
      rw [decide_eq_false c2]
      exact PySem.W.kat_no (lt_tupI i2 j2 l2 hu q)
  · rw [if_neg c] at q
    rw [decide_eq_false c]
    exact PySem.W.kat_no (lt_tupI i1 j1 l1 hu q)
end
open PySem.W (KatTups) in
theorem ktupsR {h : Heap} : ∀ vs : List Value, (∀ v, v ∈ vs → ∃ a b l r, a ≠ [] ∧ TupR h v a b l r) → ∃ fs, fs.length = vs.length ∧ KatTups h vs fs ∧ ∀ f, f ∈ fs → ∃ ns, TupI h f ns
  | [], _ => ⟨[], rfl, .nil, fun f hf => by cases hf⟩
  | v :: vs, hv => by
    obtain ⟨fs, l, t, r⟩ := ktupsR vs fun u hu => hv u (List.mem_cons_of_mem _ hu)
    obtain ⟨a, b, l', r', ne, p, x, y, n, dd, sl, rfl, o, i, j⟩ := hv v (List.mem_cons_self ..)
    refine ⟨x :: fs, by simp [l], .cons o rfl rfl rfl t, fun f hf => ?_⟩
    rcases List.mem_cons.mp hf with rfl | hf
    · exact ⟨_, i⟩
    · exact r f hf
theorem kind_rows {M : Model} {A : Around} {E : Value → Shared → Prop} {s : Shared} {vs : List Value} {Q : SortKind → Shared → Prop} (hn : 0 < vs.length) (hv : ∀ v, v ∈ vs → ∃ a b l r, a ≠ [] ∧ TupR s.heap v a b l r) (q : Q (tuples' false) s) : wpAny M A (keyKind' vs.toArray) Q E s := by
  obtain ⟨fs, l, t, r⟩ := ktupsR vs hv
  refine PySem.W.kat_kind (T := .type "tuple") t (by omega) (fun f hf => ?_) (by decide) ?_
  · obtain ⟨ns, a, its, n, dd, sl, rfl, o, _⟩ := r f hf
    exact (PySem.W.Looks.ld o).andThen .now
  · rw [show (Value.type "tuple" != Value.type "tuple") = false from by decide]
    exact q
section
variable {X : Cx} {pins : List (Addr × Obj)} {σ : St} {H : Hp} {s : Shared}
theorem tupPD_of (I : Inv X pins σ H s) {v : V} {u : Value} {d : List Int × List Int} (h : FeD H v d) (r : RelV v u) : TupP s.heap u d.1 d.2 ∧ d.1.length = 3 ∧ d.2.length = 3 := by
  obtain ⟨p, a, b, x1, y1, w1, x2, y2, w2, rfl, rfl, hp, ha, hb⟩ := h
  cases r
  have ta := tupI_of I (ns := [x1, y1, w1]) ha
  have tb := tupI_of I (ns := [x2, y2, w2]) hb
  obtain ⟨its, r, ⟨⟨cls, dd, data, sl⟩, ho, hc, n, hd⟩, _⟩ := I.tuple (.of hp)
  simp only at hc hd
  subst hc hd
  obtain ⟨u1, u2, rfl, r1, r2⟩ := vals2 r
  cases r1
  cases r2
  exact ⟨⟨p, _, _, n, dd, sl, rfl, ho, ta, tb⟩, rfl, rfl⟩
theorem tupRD_of (I : Inv X pins σ H s) {v : V} {u : Value} {d : List Int × List Int} (h : RoD H v d) (r : RelV v u) : ∃ l r, TupR s.heap u d.1 d.2 l r ∧ d.1.length = 3 ∧ d.2.length = 3 := by
  obtain ⟨p, a, b, x1, y1, w1, x2, y2, w2, l, r', rfl, rfl, hp, ha, hb⟩ := h
  cases r
  have ta := tupI_of I (ns := [x1, y1, w1]) ha
  have tb := tupI_of I (ns := [x2, y2, w2]) hb
  obtain ⟨its, r, ⟨⟨cls, dd, data, sl⟩, ho, hc, n, hd⟩, _⟩ := I.tuple (.of hp)
  simp only at hc hd
  subst hc hd
  cases r with
  | cons r1 r =>
    cases r with
    | cons r2 r =>
      cases r with
      | cons r3 r =>
        cases r with
        | cons r4 r =>
          cases r
          cases r1
          cases r2
          cases r3
          cases r4
          exact ⟨l, r', ⟨p, _, _, n, dd, sl, rfl, ho, ta, tb⟩, rfl, rfl⟩
theorem sortO_end {l : Addr} {vs : List V} {its : List Value} {d : Nat → List Int × List Int} {Q : VK} (I : Inv X pins σ H s) (hl : H l = some (.lst vs)) (h64 : vs.length < 64) (rv : Vals vs its)
    (q : ∀ D p, H D = none → Ord vs.length p → (2 ≤ vs.length → p = ansT (fun i j => ltP (d i) (d j)) (kas_sort vs.length)) → Q (.ref D) (upd H D (.lst (p.toList.map fun i => vs.getD i .non)))) (p : Array Nat) (h' : Heap) (c : Nat) (k : Keeps s.heap h') (or : Ord its.length p)
    (ep : 2 ≤ its.length → p = ansT (fun i j => ltP (d i) (d j)) (kas_sort its.length)) (ho : h'.get? (s.heap.objs.size + 1) = some (seqObj "list" (List.toArray (p.toList.map fun i => its.getD i Value.none)) c)) : EP X pins σ Q (.ref (s.heap.objs.size + 1)) { s with heap := h' } := by
  have len : vs.length = its.length := rv.length
  have lo : p.toList.length = its.length := by rw [or.length_eq, List.length_range]
  refine ⟨.ref _, upd H (s.heap.objs.size + 1) (.lst (p.toList.map fun i => vs.getD i .non)), I.laid (t' := s.toks) k (Nat.le_succ _) ⟨?_, _, c, vals_map _ (fun i hi => vals_at rv i ?_), ho⟩, rfl, q _ _ (I.hok.fresh (Nat.le_succ _)) (by rw [len]; exact or) (by rw [len]; exact ep)⟩
  · rw [List.length_map, lo]
    exact Nat.le_trans (Nat.le_of_lt (by omega : its.length < 64)) (by decide)
  · have := List.mem_range.mp (or.mem_iff.mp hi)
    omega
theorem call_sortO (hu : X.A.units + 100 < cLine) : CallR X (.builtin "sorted") (rSortO FeD) := by
  intro pins s σ H xs us Q I r h
  obtain ⟨l, vs, d, rfl, hl, h64, hf, _, q⟩ := h
  obtain ⟨u, rfl, ru⟩ := vals1 r
  cases ru
  obtain ⟨its, rv, pl, hz⟩ := I.list (.of hl)
  have len : vs.length = its.length := rv.length
  have hd : ∀ i, i < its.length → TupP s.heap (its.getD i Value.none) (d i).1 (d i).2 ∧ (d i).1.length = 3 ∧ (d i).2.length = 3 := fun i hi => tupPD_of I (hf i (by omega)) (vals_at rv i (by omega))
  refine sorted_at (κ := tuples' false) (ans := fun i j => ltP (d i) (d j)) pl.isList (by omega) (fun h2 h' k Q' q' => ?_) (fun h2 h' k i j C hi hj c => ?_) fun p h' c k or ep ho => sortO_end I hl h64 rv q p h' c k or ep ho
  · refine kind_pairs (by omega) (fun v hv => ?_) q'
    obtain ⟨i, hi, e⟩ := List.mem_iff_getElem.mp hv
    have t := hd i hi
    have e' : its.getD i Value.none = v := by simp [hi, e]
    rw [e'] at t
    exact ⟨_, _, fun z => by rw [z] at t; exact absurd t.2.1 (by decide), t.1.keeps k⟩
  · exact lt_tupP ((hd i hi).1.keeps k) ((hd j hj).1.keeps k) ((hd i hi).2.1.trans (hd j hj).2.1.symm) ((hd i hi).2.2.trans (hd j hj).2.2.symm) (by show X.A.units + 1 + 1 + 64 < _; omega) c
theorem call_sortR (hu : X.A.units + 100 < cLine) : CallR X (.builtin "sorted") (rSortO RoD) := by
  intro pins s σ H xs us Q I r h
  obtain ⟨l, vs, d, rfl, hl, h64, hf, inj, q⟩ := h
  obtain ⟨u, rfl, ru⟩ := vals1 r
  cases ru
  obtain ⟨its, rv, pl, hz⟩ := I.list (.of hl)
  have len : vs.length = its.length := rv.length
  have hd : ∀ i, i < its.length → ∃ l r, TupR s.heap (its.getD i Value.none) (d i).1 (d i).2 l r ∧ (d i).1.length = 3 ∧ (d i).2.length = 3 := fun i hi => tupRD_of I (hf i (by omega)) (vals_at rv i (by omega))
  refine sorted_at (κ := tuples' false) (ans := fun i j => ltP (d i) (d j)) pl.isList (by omega) (fun h2 h' k Q' q' => ?_) (fun h2 h' k i j C hi hj c => ?_) fun p h' c k or ep ho => sortO_end I hl h64 rv q p h' c k or ep ho
  · refine kind_rows (by omega) (fun v hv => ?_) q'
    obtain ⟨i, hi, e⟩ := List.mem_iff_getElem.mp hv
    obtain ⟨l, r, t, t1, t2⟩ := hd i hi
    have e' : its.getD i Value.none = v := by simp [hi, e]
    rw [e'] at t
    exact ⟨_, _, l, r, fun z => by rw [z] at t1; exact absurd t1 (by decide), t.keeps k⟩
  · obtain ⟨l1, r1, t1, a1, a2⟩ := hd i hi
    obtain ⟨l2, r2, t2, b1, b2⟩ := hd j hj
    refine lt_tupR (t1.keeps k) (t2.keeps k) (a1.trans b1.symm) (a2.trans b2.symm) (fun e => ?_) (by show X.A.units + 1 + 1 + 64 < _; omega) c
    have ij := inj i j (by omega) (by omega) e
    subst ij
    obtain ⟨a, x, y, n, dd, sl, e1, o, _⟩ := t1
    obtain ⟨a', x', y', n', dd', sl', e1', o', _⟩ := t2
    rw [e1] at e1'
    cases e1'
    rw [o] at o'
    cases o'
    exact ⟨rfl, rfl⟩
end
end L2
set_option Elab.async false
set_option linter.all false
set_option maxRecDepth 100000
set_option maxHeartbeats 4000000
namespace L2
open PySem PySem.Spec PyProof.Rows
open PySem.W (CodeHd codeHdIn tabIn)
structure FunC (K : PySem.W.Frag) (x qual : Str) (st : Stmt) (f : Addr) (fd : FuncData) (c P : Addr) : Prop where
  ex : ∃ (oc : Value) (od : Option Addr) (kV doc pm : Value) (an : Option Addr) (ct : Value) (osl : Array (Option Value)),
    fd = PySem.W.fnOf x qual (defArgs st) (defBody st) (defScope st) .none kV doc pm an (.ref c) ct ∧ K.lookup f = some ⟨oc, od, .func fd, osl⟩ ∧ PySem.W.codeIn K (.ref c) qual = true
  hd : codeHdIn K c P = true
section
variable {P : Program} {w : World} {K : PySem.W.Frag} {mg : Str → Option Value} {base : Heap}
theorem FunC.ok {x qual : Str} {st : Stmt} {f c tb : Addr} {fd : FuncData} {N ps : List Str} {k : Nat} {sp : Sp} (F : FunC K x qual st f fd c tb) (S : FnScope N ps (defScope st)) (len : ∀ vs H Q E, sp vs H Q E → vs.length = ps.length)
    (hbody : ∀ (A : Around) (outer : List Env) (s : Shared) (H : Hp) (vs : List V) (Q : VK) (E : XK), Room k (A.deeper (envOfC qual (defScope st) s.heap.objs.size f (.ref c))) → sp vs H Q E →
      ∃ t, PSs (cxOf CX0 P w K mg base N qual (defScope st) f (.ref c) A outer s H E).nox (defBody st) t ∧ t { nx := fun _ H' => Q .non H', rt := Q } (start N vs) H) : FnOk P w K mg base CX0 (k + 1) f fd ps sp := by
  obtain ⟨oc, od, kV, doc, pm, an, ct, osl, rfl, lk, hcd⟩ := F.ex
  refine fn_of lk hcd S len fun A outer s H vs Q E hr hsp => ?_
  obtain ⟨t, h, q⟩ := hbody A outer s H vs Q E hr hsp
  exact ⟨t, h.nox, q⟩
end
section
variable {X : Cx}
def rLt3 : R2 := fun x y H Q => ∃ a b i1 i2 i3 j1 j2 j3, x = .ref a ∧ y = .ref b ∧ H a = some (.tup [.int i1, .int i2, .int i3]) ∧ H b = some (.tup [.int j1, .int j2, .int j3]) ∧ Q (.bl (HT.lexLt [i1, i2, i3] [j1, j2, j3])) H
theorem op_lt3 (hu : X.A.units + 64 < cLine) : OpR X (compareOp .Lt) rLt3 := by
  intro pins s σ H x y v u Q I rx ry h
  obtain ⟨a, b, i1, i2, i3, j1, j2, j3, rfl, rfl, ha, hb, q⟩ := h
  cases rx
  cases ry
  obtain ⟨a1, its, n, dd, sl, e1, o, i⟩ := tupI_of I (ns := [i1, i2, i3]) ha
  obtain ⟨b1, its2, n2, dd2, sl2, e2, o2, i2'⟩ := tupI_of I (ns := [j1, j2, j3]) hb
  cases e1
  cases e2
  exact richCompare_meets_room (op := .Lt) ⟨_, o, rfl⟩ ⟨_, o2, rfl⟩ PySem.F.slot_tuple_lt PySem.F.entry_tuple_lt (PySem.F.args_tuple_lt_2 _ _) (tupleLt a b its its2 n n2 dd dd2 sl sl2 [i1, i2, i3] [j1, j2, j3] rfl i i2') ⟨o, o2, (fun z => nomatch z), ⟨.bl _, H, I, rfl, q⟩⟩ (by omega)
end
theorem LamTab.ne {H : Hp} {P : Addr} {pos : Pos} {q : Str} (t : LamTab H P pos q) {a : Addr} {o : HO} (h : H a = some o) (n : ∀ ps, o ≠ .tbl ps) : a ≠ P := fun z => by
  obtain ⟨ps, e, _⟩ := t
  rw [z, e] at h
  cases h
  exact n ps rfl
theorem SameT.tup {P : Addr} {pos : Pos} {q : Str} {H H' : Hp} (g : SameT P H H') (t : LamTab H P pos q) {a : Addr} {xs : List V} (h : H a = some (.tup xs)) : H' a = some (.tup xs) := g a _ (t.ne h fun _ z => nomatch z) h
theorem SameT.lst {P : Addr} {pos : Pos} {q : Str} {H H' : Hp} (g : SameT P H H') (t : LamTab H P pos q) {a : Addr} {xs : List V} (h : H a = some (.lst xs)) : H' a = some (.lst xs) := g a _ (t.ne h fun _ z => nomatch z) h
end L2
set_option Elab.async false
set_option linter.all false
set_option maxRecDepth 100000
set_option maxHeartbeats 4000000
namespace L2
open PySem PySem.Spec PyProof.Rows
open PySem.W (kas_sort)
structure STO {α : Type} (lt : α → α → Bool) : Prop where
  irr : ∀ a, lt a a = false
  tr : ∀ a b c, lt a b = true → lt b c = true → lt a c = true
  tot : ∀ a b, a ≠ b → lt a b = true ∨ lt b a = true
def lexB {α β : Type} [DecidableEq α] (r : α → α → Bool) (s : β → β → Bool) (a b : α × β) : Bool := if a.1 = b.1 then s a.2 b.2 else r a.1 b.1
theorem STO.lex {α β : Type} [DecidableEq α] {r : α → α → Bool} {s : β → β → Bool} (R : STO r) (S : STO s) : STO (lexB r s) where
  irr a := by unfold lexB; rw [if_pos rfl]; exact S.irr _
  tr a b c h1 h2 := by
    unfold lexB at *
    by_cases e1 : a.1 = b.1
    · rw [if_pos e1] at h1
      by_cases e2 : b.1 = c.1
      · rw [if_pos e2] at h2
        rw [if_pos (e1.trans e2)]
        exact S.tr _ _ _ h1 h2
      · rw [if_neg e2] at h2
        rw [if_neg (fun z => e2 (e1.symm.trans z)), e1]
        exact h2
    · rw [if_neg e1] at h1
      by_cases e2 : b.1 = c.1
      · rw [if_neg (fun z => e1 (z.trans e2.symm)), ← e2]
        exact h1
      · rw [if_neg e2] at h2
        have n : a.1 ≠ c.1 := fun z => by
          rw [← z] at h2
          have := R.tr _ _ _ h1 h2
          rw [R.irr] at this
          cases this
        rw [if_neg n]
        exact R.tr _ _ _ h1 h2
  tot a b h := by
    unfold lexB
    by_cases e : a.1 = b.1
    · rw [if_pos e, if_pos e.symm]
      exact S.tot _ _ fun z => h (Prod.ext e z)
    · rw [if_neg e, if_neg fun z => e z.symm]
      exact R.tot _ _ e
theorem STO.int : STO (fun a b : Int => decide (a < b)) where
  irr a := decide_eq_false (by omega)
  tr a b c h1 h2 := decide_eq_true (by have := of_decide_eq_true h1; have := of_decide_eq_true h2; omega)
  tot a b h := by
    rcases Int.lt_or_gt_of_ne h with h | h
    · exact .inl (decide_eq_true h)
    · exact .inr (decide_eq_true h)
abbrev lt2 : Int × Int → Int × Int → Bool := lexB (fun a b => decide (a < b)) (fun a b => decide (a < b))
theorem sto2 : STO lt2 := STO.int.lex STO.int
theorem lex1 (a b : Int) : HT.lexLt [a] [b] = decide (a < b) := by
  rw [HT.lexLt_cons, HT.lexLt_nil_nil]
  by_cases e : a = b
  · rw [if_pos e]; exact (decide_eq_false (by omega)).symm
  · rw [if_neg e]
theorem lex2 (a b c d : Int) : HT.lexLt [a, b] [c, d] = lt2 (a, b) (c, d) := by
  rw [HT.lexLt_cons, lex1]
  rfl
abbrev lt3 : Int × Int × Int → Int × Int × Int → Bool := lexB (fun a b => decide (a < b)) lt2
theorem sto3 : STO lt3 := STO.int.lex sto2
theorem lex3 (a b c d e f : Int) : HT.lexLt [a, b, c] [d, e, f] = lt3 (a, b, c) (d, e, f) := by
  rw [HT.lexLt_cons, lex2]
  rfl
abbrev lt22 : (Int × Int) × (Int × Int) → (Int × Int) × (Int × Int) → Bool := lexB lt2 lt2
theorem sto22 : STO lt22 := sto2.lex sto2
theorem ltL_two (x1 x2 y1 y2 : Int × Int) : ltL [x1, x2] [y1, y2] = lt22 (x1, x2) (y1, y2) := by
  unfold ltL ltL
  rw [lex2, lex2]
  show (if x1 = y1 then (if x2 = y2 then ltL [] [] else lt2 x2 y2) else lt2 x1 y1) = if x1 = y1 then lt2 x2 y2 else lt2 x1 y1
  by_cases e : x1 = y1
  · rw [if_pos e, if_pos e]
    by_cases e2 : x2 = y2
    · rw [if_pos e2, e2, sto2.irr]; rfl
    · rw [if_neg e2]
  · rw [if_neg e, if_neg e]
abbrev lt33 : (Int × Int × Int) × (Int × Int × Int) → (Int × Int × Int) × (Int × Int × Int) → Bool := lexB lt3 lt3
theorem sto33 : STO lt33 := sto3.lex sto3
theorem ltP_six (a b c d e f a' b' c' d' e' f' : Int) : ltP ([a, b, c], [d, e, f]) ([a', b', c'], [d', e', f']) = lt33 ((a, b, c), (d, e, f)) ((a', b', c'), (d', e', f')) := by
  unfold ltP
  rw [lex3, lex3]
  show (if [a, b, c] = [a', b', c'] then (if [d, e, f] = [d', e', f'] then false else lt3 (d, e, f) (d', e', f')) else lt3 (a, b, c) (a', b', c')) = if (a, b, c) = (a', b', c') then lt3 (d, e, f) (d', e', f') else lt3 (a, b, c) (a', b', c')
  by_cases h : (a, b, c) = (a', b', c')
  · have h' : [a, b, c] = [a', b', c'] := by cases h; rfl
    rw [if_pos h, if_pos h']
    by_cases k : [d, e, f] = [d', e', f']
    · rw [if_pos k]
      cases k
      exact (sto3.irr _).symm
    · rw [if_neg k]
  · have h' : ¬ [a, b, c] = [a', b', c'] := fun z => h (by cases z; rfl)
    rw [if_neg h, if_neg h']
theorem sorted_of {α β : Type} {lt : β → β → Bool} (S : STO lt) (k : α → β) (z : α) {fs : List α} (nd : (fs.map k).Nodup) {p : Array Nat} (or : Ord fs.length p) (ep : 2 ≤ fs.length → p = ansT (fun i j => lt (k (fs.getD i z)) (k (fs.getD j z))) (kas_sort fs.length)) :
    (p.toList.map fun i => fs.getD i z).Perm fs ∧ (p.toList.map fun i => fs.getD i z).Pairwise fun a b => lt (k a) (k b) = true := by
  have rg : ((List.range fs.length).map fun i => fs.getD i z) = fs := by
    refine List.ext_getElem (by simp) fun i h1 h2 => ?_
    have hi : i < fs.length := h2
    simp [hi]
  have lo : p.toList.length = fs.length := by rw [or.length_eq, List.length_range]
  refine ⟨?_, ?_⟩
  · have := or.map fun i => fs.getD i z
    rw [rg] at this
    exact this
  · by_cases h2 : 2 ≤ fs.length
    · have nd' := List.pairwise_map.mp nd
      have T : Tot fs.length (fun i j => lt (k (fs.getD i z)) (k (fs.getD j z))) := ⟨fun i => S.irr _, fun i j l => S.tr _ _ _, fun i j hi hj hn => S.tot _ _ fun e => hn (by
        have e1 : fs.getD i z = fs[i] := by simp [hi]
        have e2 : fs.getD j z = fs[j] := by simp [hj]
        rw [e1, e2] at e
        rcases Nat.lt_trichotomy i j with h | h | h
        · exact absurd e ((List.pairwise_iff_getElem.mp nd') i j hi hj h)
        · exact h
        · exact absurd e.symm ((List.pairwise_iff_getElem.mp nd') j i hj hi h))⟩
      have u := up_sort T (by omega)
      rw [← ep h2] at u
      refine List.pairwise_iff_getElem.mpr fun i j hi hj hij => ?_
      have hi' : i < p.size := by simpa using hi
      have hj' : j < p.size := by simpa using hj
      have hn : p.size = fs.length := by simpa using lo
      have := u i j hij (by omega)
      have e1 : p.getD i 0 = p[i] := by simp [Array.getD, hi']
      have e2 : p.getD j 0 = p[j] := by simp [Array.getD, hj']
      rw [e1, e2] at this
      simpa using this
    · have l1 : (p.toList.map fun i => fs.getD i z).length ≤ 1 := by rw [List.length_map, lo]; omega
      revert l1
      generalize (p.toList.map fun i => fs.getD i z) = ws
      intro l1
      match ws, l1 with
      | [], _ => exact .nil
      | [a], _ => exact List.pairwise_singleton _ _
end L2
namespace L2
open PySem
theorem hu80 {A : Around} {k : Nat} (hr : Room k A) : A.units + 80 < cLine := by have := hu100 hr; omega
def lamAt (st : Stmt) : Scope × Pos := match (defBody st).getLast? with
  | some (.Return (some (.Call _ _ (⟨_, .Lambda _ _ sc lp, _⟩ :: _) _)) _) => (sc, lp)
  | _ => (defScope st, ⟨0, 0, 0, 0⟩)
theorem pi_tupK {X : Cx} {tg l : Expr} {tl : TE} {K' : PySem.W.Frag} (hK : X.K = K') (hl : PE X l tl) : PI X tg l (iTup K' tl) := by
  subst hK
  exact pi_tup hl
end L2
set_option Elab.async false
set_option linter.all false
set_option maxRecDepth 100000
set_option maxHeartbeats 4000000
namespace My
def G (a b : Int) : Int := (Int.gcd a b : Nat)
theorem G_mod (a b : Int) (hb : 0 < b) : G b (Int.fmod a b) = G a b := by
  unfold G
  rw [Int.fmod_eq_emod_of_nonneg a (Int.le_of_lt hb), Int.gcd_comm a b]
  have e : a % b + a / b * b = a := by rw [Int.mul_comm]; exact Int.emod_add_mul_ediv a b
  rw [← Int.gcd_add_mul_right_right b (a % b) (a / b), e]
theorem turn {c a b : Int} (h : G a b = c) (hb : 0 < b) : 0 ≤ b ∧ 0 ≤ Int.fmod a b ∧ G b (Int.fmod a b) = c :=
  ⟨Int.le_of_lt hb, Int.fmod_nonneg_of_pos a hb, by rw [G_mod a b hb, h]⟩
end My
namespace My
structure Low (n : Nat) (a b : Int) : Prop where
  pos : 0 < b
  one : G a b = 1
  la : a.natAbs < 2 ^ n
  lb : b.natAbs < 2 ^ n
theorem Low.ne {n : Nat} {a b : Int} (h : Low n a b) : b ≠ 0 := by have := h.pos; omega
theorem mul_lt {a b : Int} {m n : Nat} (h1 : a.natAbs < 2 ^ m) (h2 : b.natAbs < 2 ^ n) : (a * b).natAbs < 2 ^ (m + n) := by
  rw [Int.natAbs_mul, Nat.pow_add]
  exact Nat.mul_lt_mul'' h1 h2
theorem sub_lt {a b : Int} {m : Nat} (h1 : a.natAbs < 2 ^ m) (h2 : b.natAbs < 2 ^ m) : (a - b).natAbs < 2 ^ (m + 1) := by
  rw [Nat.pow_succ]; omega
theorem lt_mono {a : Int} {m n : Nat} (h : a.natAbs < 2 ^ m) (hm : m ≤ n) : a.natAbs < 2 ^ n := Nat.lt_of_lt_of_le h (Nat.pow_le_pow_right (by decide) hm)
end My
namespace My
end My
namespace My
end My
namespace My
def g3 (a b c : Int) : Nat := Nat.gcd (Nat.gcd a.natAbs b.natAbs) c.natAbs
structure Pt (n : Nat) (x y w : Int) : Prop where
  pos : 0 < w
  one : g3 x y w = 1
  lx : x.natAbs < 2 ^ n
  ly : y.natAbs < 2 ^ n
  lw : w.natAbs < 2 ^ n
theorem Pt.ne {n : Nat} {x y w : Int} (h : Pt n x y w) : w ≠ 0 := by have := h.pos; omega
theorem Pt.mono {m n : Nat} {x y w : Int} (h : Pt m x y w) (hm : m ≤ n) : Pt n x y w := ⟨h.pos, h.one, lt_mono h.lx hm, lt_mono h.ly hm, lt_mono h.lw hm⟩
end My
namespace My
end My
namespace My
end My
namespace My
def sgn (z : Int) : Int := if 0 < z then 1 else if z < 0 then -1 else 0
theorem sgn_zero : sgn 0 = 0 := by decide
def bef (x1 y1 w1 x2 y2 w2 : Int) : Bool := if x1 * w2 = x2 * w1 then decide (y1 * w2 < y2 * w1) else decide (x1 * w2 < x2 * w1)
def lnA (x1 y1 w1 x2 y2 w2 : Int) : Int := y1 * w2 - w1 * y2
def lnB (x1 y1 w1 x2 y2 w2 : Int) : Int := w1 * x2 - x1 * w2
def lnC (x1 y1 w1 x2 y2 w2 : Int) : Int := x1 * y2 - y1 * x2
def det3 (x1 y1 w1 x2 y2 w2 x3 y3 w3 : Int) : Int := lnA x1 y1 w1 x2 y2 w2 * x3 + lnB x1 y1 w1 x2 y2 w2 * y3 + lnC x1 y1 w1 x2 y2 w2 * w3
end My
namespace My
end My
namespace My
structure S6 where
  x1 : Int
  y1 : Int
  w1 : Int
  x2 : Int
  y2 : Int
  w2 : Int
end My
namespace My
end My
namespace My
end My
namespace My
def b2 (b : Bool) : Int := if b = true then 1 else 0
structure W4 where
  x0 : Int
  y0 : Int
  x1 : Int
  y1 : Int
deriving DecidableEq
def eH (I : Int → Int → Bool) (x y : Int) : Int := b2 (I x y) - b2 (I x (y - 1))
def eV (I : Int → Int → Bool) (x y : Int) : Int := b2 (I (x - 1) y) - b2 (I x y)
def smB (I : Int → Int → Bool) (x y : Int) : Bool := if eH I (x - 1) y = 0 ∧ eH I x y = 0 then decide (eV I x (y - 1) ≠ 0 ∧ eV I x (y - 1) = eV I x y) else decide ((eV I x (y - 1) = 0 ∧ eV I x y = 0) ∧ eH I (x - 1) y = eH I x y)
def lvB (I : Int → Int → Bool) (x y dx dy : Int) : Bool := if dy = 0 then decide (eH I (x + (if 0 < dx then 0 else dx)) y = dx) else decide (eV I x (y + (if 0 < dy then 0 else dy)) = dy)
def farN (I : Int → Int → Bool) (x y dx dy : Int) : Nat → Nat → Nat
  | 0, f => f
  | n + 1, f => if smB I (x + f * dx) (y + f * dy) = true then farN I x y dx dy n (f + 1) else f
def wayL (I : Int → Int → Bool) (w : W4) : List W4 := if smB I w.x0 w.y0 = false ∧ lvB I w.x0 w.y0 w.x1 w.y1 = true then [⟨w.x0, w.y0, w.x0 + farN I w.x0 w.y0 w.x1 w.y1 6 1 * w.x1, w.y0 + farN I w.x0 w.y0 w.x1 w.y1 6 1 * w.y1⟩] else []
def dirs : List (Int × Int) := [(1, 0), (0, 1), (-1, 0), (0, -1)]
def idxK (k : Nat) : List W4 := (List.range k).flatMap fun (j : Nat) => dirs.map fun d => ⟨(j : Int) % 5, (j : Int) / 5, d.1, d.2⟩
def waysOf (I : Int → Int → Bool) : List W4 := (idxK 25).flatMap (wayL I)
def stepsN (x y dx dy : Int) : Nat → List W4
  | 0 => []
  | n + 1 => ⟨x, y, x + dx, y + dy⟩ :: stepsN (x + dx) (y + dy) dx dy n
def s1 (l0 l1 r0 r1 : Bool) : Bool := (l0 == r0 && l1 == r1 && r0 != r1) || (r0 == r1 && l0 == l1 && l0 != r0)
def sm1 (L R : Int → Bool) (t : Int) : Bool := s1 (L (t - 1)) (L t) (R (t - 1)) (R t)
def e1 (L R : Int → Bool) (t : Int) : Int := b2 (L t) - b2 (R t)
def far1 (L R : Int → Bool) (t d : Int) : Nat → Nat → Nat
  | 0, f => f
  | n + 1, f => if sm1 L R (t + f * d) = true then far1 L R t d n (f + 1) else f
def lv1 (L R : Int → Bool) (t d : Int) : Bool := decide (e1 L R (t + (if 0 < d then 0 else d)) = d)
def steps1 (t d : Int) : Nat → List (Int × Int)
  | 0 => []
  | n + 1 => (t, t + d) :: steps1 (t + d) d n
def exp1 (L R : Int → Bool) (p : Int × Int) : List (Int × Int) := if sm1 L R p.1 = false ∧ lv1 L R p.1 p.2 = true then steps1 p.1 p.2 (far1 L R p.1 p.2 6 1) else []
def idx1 : List (Int × Int) := [(0, 1), (0, -1), (1, 1), (1, -1), (2, 1), (2, -1), (3, 1), (3, -1), (4, 1), (4, -1)]
def lineE (L R : Int → Bool) : List (Int × Int) := idx1.flatMap (exp1 L R)
def unit1 (L R : Int → Bool) (t : Int) : List (Int × Int) := if e1 L R t = 1 then [(t, t + 1)] else if e1 L R t = -1 then [(t + 1, t)] else []
def lineU (L R : Int → Bool) : List (Int × Int) := [0, 1, 2, 3].flatMap (unit1 L R)
def mk4 (a b c d : Bool) (t : Int) : Bool := if t = 0 then a else if t = 1 then b else if t = 2 then c else if t = 3 then d else false
theorem line_all : ∀ a b c d a' b' c' d' : Bool, (lineE (mk4 a b c d) (mk4 a' b' c' d')).isPerm (lineU (mk4 a b c d) (mk4 a' b' c' d')) = true := by decide +kernel
theorem mk4_of {L : Int → Bool} (h : ∀ t, L t = true → 0 ≤ t ∧ t < 4) : L = mk4 (L 0) (L 1) (L 2) (L 3) := by
  funext t
  unfold mk4
  by_cases h0 : t = 0
  · rw [if_pos h0, h0]
  · rw [if_neg h0]
    by_cases h1 : t = 1
    · rw [if_pos h1, h1]
    · rw [if_neg h1]
      by_cases h2 : t = 2
      · rw [if_pos h2, h2]
      · rw [if_neg h2]
        by_cases h3 : t = 3
        · rw [if_pos h3, h3]
        · rw [if_neg h3]
          cases e : L t with
          | false => rfl
          | true => have := h t e; omega
theorem line_perm {L R : Int → Bool} (hL : ∀ t, L t = true → 0 ≤ t ∧ t < 4) (hR : ∀ t, R t = true → 0 ≤ t ∧ t < 4) : (lineE L R).Perm (lineU L R) := by
  rw [mk4_of hL, mk4_of hR]
  exact List.isPerm_iff.mp (line_all _ _ _ _ _ _ _ _)
theorem sm_h (I : Int → Int → Bool) (x y : Int) : smB I x y = sm1 (fun t => I t y) (fun t => I t (y - 1)) x := by
  unfold smB sm1 eH eV
  dsimp only
  generalize I (x - 1) (y - 1) = a, I x (y - 1) = b, I (x - 1) y = c, I x y = d
  revert a b c d
  decide
theorem sm_v (I : Int → Int → Bool) (x y : Int) : smB I x y = sm1 (fun t => I (x - 1) t) (fun t => I x t) y := by
  unfold smB sm1 eH eV
  dsimp only
  generalize I (x - 1) (y - 1) = a, I x (y - 1) = b, I (x - 1) y = c, I x y = d
  revert a b c d
  decide
theorem far_h (I : Int → Int → Bool) (x y d : Int) : ∀ n f, farN I x y d 0 n f = far1 (fun t => I t y) (fun t => I t (y - 1)) x d n f
  | 0, f => rfl
  | n + 1, f => by
    unfold farN far1
    rw [Int.mul_zero, Int.add_zero, sm_h, far_h I x y d n (f + 1)]
theorem far_v (I : Int → Int → Bool) (x y d : Int) : ∀ n f, farN I x y 0 d n f = far1 (fun t => I (x - 1) t) (fun t => I x t) y d n f
  | 0, f => rfl
  | n + 1, f => by
    unfold farN far1
    rw [Int.mul_zero, Int.add_zero, sm_v, far_v I x y d n (f + 1)]
def embH (y : Int) (p : Int × Int) : W4 := ⟨p.1, y, p.2, y⟩
def embV (x : Int) (p : Int × Int) : W4 := ⟨x, p.1, x, p.2⟩
theorem steps_h (y d : Int) : ∀ (n : Nat) (x : Int), stepsN x y d 0 n = (steps1 x d n).map (embH y)
  | 0, x => rfl
  | n + 1, x => by
    unfold stepsN steps1
    rw [Int.add_zero, steps_h y d n, List.map_cons]
    rfl
theorem steps_v (x d : Int) : ∀ (n : Nat) (y : Int), stepsN x y 0 d n = (steps1 y d n).map (embV x)
  | 0, y => rfl
  | n + 1, y => by
    unfold stepsN steps1
    rw [Int.add_zero, steps_v x d n, List.map_cons]
    rfl
def expL (I : Int → Int → Bool) (w : W4) : List W4 := if smB I w.x0 w.y0 = false ∧ lvB I w.x0 w.y0 w.x1 w.y1 = true then stepsN w.x0 w.y0 w.x1 w.y1 (farN I w.x0 w.y0 w.x1 w.y1 6 1) else []
theorem exp_h (I : Int → Int → Bool) (y : Int) (p : Int × Int) : expL I ⟨p.1, y, p.2, 0⟩ = (exp1 (fun t => I t y) (fun t => I t (y - 1)) p).map (embH y) := by
  unfold expL exp1
  simp only
  rw [sm_h, far_h, steps_h]
  have e : lvB I p.1 y p.2 0 = lv1 (fun t => I t y) (fun t => I t (y - 1)) p.1 p.2 := by
    unfold lvB lv1
    rw [if_pos rfl]
    rfl
  rw [e]
  split
  · rfl
  · rfl
theorem exp_v (I : Int → Int → Bool) (x : Int) (p : Int × Int) (h : p.2 ≠ 0) : expL I ⟨x, p.1, 0, p.2⟩ = (exp1 (fun t => I (x - 1) t) (fun t => I x t) p).map (embV x) := by
  unfold expL exp1
  simp only
  rw [sm_v, far_v, steps_v]
  have e : lvB I x p.1 0 p.2 = lv1 (fun t => I (x - 1) t) (fun t => I x t) p.1 p.2 := by
    unfold lvB lv1
    rw [if_neg h]
    rfl
  rw [e]
  split
  · rfl
  · rfl
def fives : List Int := [0, 1, 2, 3, 4]
def idxL : List W4 := (fives.flatMap fun y => idx1.map fun p => ⟨p.1, y, p.2, 0⟩) ++ fives.flatMap fun x => idx1.map fun p => ⟨x, p.1, 0, p.2⟩
theorem idx_perm : (idxK 25).Perm idxL := List.isPerm_iff.mp (by decide +kernel)
theorem perm_flat {α β : Type} {f g : α → List β} : ∀ (l : List α), (∀ a, a ∈ l → (f a).Perm (g a)) → (l.flatMap f).Perm (l.flatMap g)
  | [], _ => .refl _
  | a :: l, h => by
    rw [List.flatMap_cons, List.flatMap_cons]
    exact (h a (List.mem_cons_self ..)).append (perm_flat l fun b hb => h b (List.mem_cons_of_mem _ hb))
theorem flat_congr {α β : Type} {f g : α → List β} : ∀ (l : List α), (∀ a, a ∈ l → f a = g a) → l.flatMap f = l.flatMap g
  | [], _ => rfl
  | a :: l, h => by
    rw [List.flatMap_cons, List.flatMap_cons, h a (List.mem_cons_self ..), flat_congr l fun b hb => h b (List.mem_cons_of_mem _ hb)]
def unitsOf (I : Int → Int → Bool) : List W4 := (fives.flatMap fun y => (lineU (fun t => I t y) (fun t => I t (y - 1))).map (embH y)) ++ fives.flatMap fun x => (lineU (fun t => I (x - 1) t) (fun t => I x t)).map (embV x)
theorem units_perm {I : Int → Int → Bool} (h : ∀ x y, I x y = true → (0 ≤ x ∧ x < 4) ∧ (0 ≤ y ∧ y < 4)) : ((idxK 25).flatMap (expL I)).Perm (unitsOf I) := by
  refine (idx_perm.flatMap_right _).trans ?_
  unfold idxL unitsOf
  rw [List.flatMap_append]
  refine List.Perm.append ?_ ?_
  · rw [List.flatMap_assoc]
    refine perm_flat _ fun y _ => ?_
    rw [List.flatMap_map]
    have e : (idx1.flatMap fun p => expL I ⟨p.1, y, p.2, 0⟩) = (lineE (fun t => I t y) (fun t => I t (y - 1))).map (embH y) := by
      unfold lineE
      rw [List.map_flatMap]
      congr 1
      funext p
      exact exp_h I y p
    rw [e]
    exact (line_perm (fun t ht => (h t y ht).1) (fun t ht => (h t (y - 1) ht).1)).map _
  · rw [List.flatMap_assoc]
    refine perm_flat _ fun x _ => ?_
    rw [List.flatMap_map]
    have e : (idx1.flatMap fun p => expL I ⟨x, p.1, 0, p.2⟩) = (lineE (fun t => I (x - 1) t) (fun t => I x t)).map (embV x) := by
      unfold lineE
      rw [List.map_flatMap]
      refine flat_congr _ fun p hp => ?_
      exact exp_v I x p (by
        unfold idx1 at hp
        simp only [List.mem_cons, List.not_mem_nil, or_false] at hp
        rcases hp with rfl | rfl | rfl | rfl | rfl | rfl | rfl | rfl | rfl | rfl <;> decide)
    rw [e]
    exact (line_perm (fun t ht => (h (x - 1) t ht).2) (fun t ht => (h x t ht).2)).map _
def sumI {α : Type} (f : α → Int) : List α → Int
  | [] => 0
  | a :: l => f a + sumI f l
theorem far_ge (I : Int → Int → Bool) (x y dx dy : Int) : ∀ n f, f ≤ farN I x y dx dy n f
  | 0, f => Nat.le_refl _
  | n + 1, f => by
    unfold farN
    split
    · exact Nat.le_trans (Nat.le_succ f) (far_ge I x y dx dy n (f + 1))
    · exact Nat.le_refl _
theorem idx_dirs {k : Nat} {w : W4} (h : w ∈ idxK k) : (w.x1, w.y1) ∈ dirs ∧ 0 ≤ w.x0 ∧ w.x0 ≤ 4 ∧ 0 ≤ w.y0 := by
  unfold idxK at h
  obtain ⟨j, hj, h⟩ := List.mem_flatMap.mp h
  obtain ⟨d, hd, rfl⟩ := List.mem_map.mp h
  exact ⟨hd, by simp only; omega, by simp only; omega, by simp only; omega⟩
structure M7 where
  a : Int
  b : Int
  c : Int
  d : Int
  e : Int
  f : Int
  m : Int
def quads : List (Int × Int × Int × Int) := [(1, 0, 0, 1), (2, 1, 0, 1), (1, 1, -1, 1), (3, -1, 1, 2), (1, 2, 0, 1), (0, -1, 1, 0), (5, 3, 3, 2), (-1, 0, 2, -3)]
structure MOk (M : M7) : Prop where
  q : (M.a, M.b, M.c, M.d) ∈ quads
  m : M.m = 1 ∨ M.m = 2 ∨ M.m = 3 ∨ M.m = 6
  e : M.e.natAbs < 2 ^ 70
  f : M.f.natAbs < 2 ^ 70
def fx (M : M7) (x y : Int) : Int := M.a * x + M.b * y
def fy (M : M7) (x y : Int) : Int := M.c * x + M.d * y
theorem b2_cases (b : Bool) : (b = true ∧ b2 b = 1) ∨ (b = false ∧ b2 b = 0) := by cases b <;> decide
def cells (I : Int → Int → Bool) : Int := sumI (fun y => sumI (fun x => b2 (I x y)) [0, 1, 2, 3]) [0, 1, 2, 3]
def ab0 (α β u v : Int) : Bool := if 0 < α then decide (0 ≤ u ∧ u < 2 * α ∧ α * v - β * u < 0) else if α < 0 then decide (2 * α ≤ u ∧ u < 0 ∧ 0 < α * v - β * u) else false
def lpos (α β : Int) : Prop := 0 < α ∨ (α = 0 ∧ 0 < β)
instance (α β : Int) : Decidable (lpos α β) := inferInstanceAs (Decidable (_ ∨ _))
theorem sgn_scale {k z : Int} (hk : 0 < k) : (k * z < 0 ↔ z < 0) ∧ (0 < k * z ↔ 0 < z) ∧ (k * z = 0 ↔ z = 0) := by
  refine ⟨⟨fun h => ?_, fun h => Int.mul_neg_of_pos_of_neg hk h⟩, ⟨fun h => ?_, fun h => Int.mul_pos hk h⟩, ⟨fun h => ?_, fun h => by rw [h, Int.mul_zero]⟩⟩
  · by_cases z0 : z < 0
    · exact z0
    · have := Int.mul_nonneg (Int.le_of_lt hk) (show 0 ≤ z by omega)
      omega
  · by_cases z0 : 0 < z
    · exact z0
    · have := Int.mul_nonneg (Int.le_of_lt hk) (show 0 ≤ -z by omega)
      rw [Int.mul_neg] at this
      omega
  · rcases Int.mul_eq_zero.mp h with e | e
    · omega
    · exact e
def hE (M : M7) (dx dy : Int) : Int := b2 (ab0 (fx M 1 0) (fy M 1 0) (fx M dx dy) (fy M dx dy))
def vE (M : M7) (dx dy : Int) : Int := b2 (ab0 (fx M 0 1) (fy M 0 1) (fx M dx dy) (fy M dx dy))
def par (M : M7) (dx dy : Int) : Int := hE M dx dy + hE M dx (dy - 2) + vE M dx dy + vE M (dx - 2) dy
def r7 : List Int := (List.range 7).map fun (n : Nat) => (n : Int) + 1
structure Q3 where
  x : Int
  y : Int
  w : Int
def befQ (p q : Q3) : Bool := bef p.x p.y p.w q.x q.y q.w
def detQ (p q r : Q3) : Int := det3 p.x p.y p.w q.x q.y q.w r.x r.y r.w
def s6 (p q : Q3) : S6 := if befQ p q = true then ⟨p.x, p.y, p.w, q.x, q.y, q.w⟩ else ⟨q.x, q.y, q.w, p.x, p.y, p.w⟩
def Sc (p q : Q3) : Prop := ∃ k : Int, 0 < k ∧ p.x = k * q.x ∧ p.y = k * q.y ∧ p.w = k * q.w
theorem Sc.refl (p : Q3) : Sc p p := ⟨1, by decide, by omega, by omega, by omega⟩
def loS (d : Int) (p : Q3) : Q3 := if p.x % d = 0 ∧ p.y % d = 0 ∧ p.w % d = 0 then ⟨p.x / d, p.y / d, p.w / d⟩ else p
theorem sc_loS {d : Int} (hd : 0 < d) {p q : Q3} (h : Sc p q) : Sc p (loS d q) := by
  unfold loS
  split
  · rename_i c
    obtain ⟨k, hk, ex, ey, ew⟩ := h
    have e1 : q.x = d * (q.x / d) := by have := Int.mul_ediv_add_emod q.x d; omega
    have e2 : q.y = d * (q.y / d) := by have := Int.mul_ediv_add_emod q.y d; omega
    have e3 : q.w = d * (q.w / d) := by have := Int.mul_ediv_add_emod q.w d; omega
    refine ⟨k * d, Int.mul_pos hk hd, ?_, ?_, ?_⟩
    · rw [ex, Int.mul_assoc]; exact congrArg (k * ·) e1
    · rw [ey, Int.mul_assoc]; exact congrArg (k * ·) e2
    · rw [ew, Int.mul_assoc]; exact congrArg (k * ·) e3
  · exact h
def loI (p : Q3) (i : Nat) : Q3 := (([2, 2, 3, 3] : List Int).take i).foldl (fun q d => loS d q) p
def loQ (p : Q3) : Q3 := loI p 4
theorem sc_loQ (p : Q3) : Sc p (loQ p) := sc_loS (by decide) (sc_loS (by decide) (sc_loS (by decide) (sc_loS (by decide) (.refl p))))
theorem Sc.wpos {p q : Q3} (h : Sc p q) (hp : 0 < p.w) : 0 < q.w := by
  obtain ⟨k, hk, _, _, ew⟩ := h
  rw [ew] at hp
  exact (sgn_scale hk).2.1.mp hp
theorem mul_le_abs {k z : Int} (hk : 0 < k) : z.natAbs ≤ (k * z).natAbs := by
  rw [Int.natAbs_mul]
  exact Nat.le_mul_of_pos_left _ (by omega)
theorem Sc.le {p q : Q3} (h : Sc p q) : q.x.natAbs ≤ p.x.natAbs ∧ q.y.natAbs ≤ p.y.natAbs ∧ q.w.natAbs ≤ p.w.natAbs := by
  obtain ⟨k, hk, ex, ey, ew⟩ := h
  rw [ex, ey, ew]
  exact ⟨mul_le_abs hk, mul_le_abs hk, mul_le_abs hk⟩
theorem cmp_scale {K a b A B : Int} (hK : 0 < K) (ea : A = K * a) (eb : B = K * b) : (A < B ↔ a < b) ∧ (A = B ↔ a = b) := by
  subst ea
  subst eb
  refine ⟨⟨fun h => Int.lt_of_mul_lt_mul_left h (Int.le_of_lt hK), fun h => Int.mul_lt_mul_of_pos_left h hK⟩, ⟨fun h => Int.eq_of_mul_eq_mul_left (by omega) h, fun h => by rw [h]⟩⟩
theorem det_sc {p p' q q' r r' : Q3} (h1 : Sc p p') (h2 : Sc q q') (h3 : Sc r r') : ∃ K : Int, 0 < K ∧ detQ p q r = K * detQ p' q' r' := by
  obtain ⟨k, hk, ex, ey, ew⟩ := h1
  obtain ⟨l, hl, gx, gy, gw⟩ := h2
  obtain ⟨n, hn, hx, hy, hw⟩ := h3
  refine ⟨k * l * n, Int.mul_pos (Int.mul_pos hk hl) hn, ?_⟩
  unfold detQ det3 lnA lnB lnC
  rw [ex, ey, ew, gx, gy, gw, hx, hy, hw]
  grind
def spQ (M : M7) (x y k : Int) : Q3 := ⟨M.a * x + M.b * y + M.e * k, M.c * x + M.d * y + M.f * k, M.m * k⟩
theorem MOk.mp {M : M7} (h : MOk M) : 0 < M.m := by have := h.m; omega
theorem len_le {α β : Type} {f g : α → List β} : ∀ l : List α, (∀ a, a ∈ l → (f a).length ≤ (g a).length) → (l.flatMap f).length ≤ (l.flatMap g).length
  | [], _ => Nat.le_refl _
  | a :: l, h => by
    rw [List.flatMap_cons, List.flatMap_cons, List.length_append, List.length_append]
    exact Nat.add_le_add (h a (List.mem_cons_self ..)) (len_le l fun b hb => h b (List.mem_cons_of_mem _ hb))
theorem steps_len (x y dx dy : Int) : ∀ n : Nat, (stepsN x y dx dy n).length = n := by
  intro n
  induction n generalizing x y with
  | zero => rfl
  | succ n ih => rw [stepsN, List.length_cons, ih]
theorem flat_le {α β : Type} {f : α → List β} {k : Nat} : ∀ l : List α, (∀ a, a ∈ l → (f a).length ≤ k) → (l.flatMap f).length ≤ l.length * k
  | [], _ => by simp
  | a :: l, h => by
    rw [List.flatMap_cons, List.length_append, List.length_cons, Nat.succ_mul]
    have h1 := h a (List.mem_cons_self ..)
    have h2 := flat_le l fun b hb => h b (List.mem_cons_of_mem _ hb)
    omega
theorem lineU_len (L R : Int → Bool) : (lineU L R).length ≤ 4 := by
  unfold lineU
  refine Nat.le_trans (flat_le (k := 1) _ fun t _ => ?_) (Nat.le_refl _)
  unfold unit1
  split
  · exact Nat.le_refl _
  · split
    · exact Nat.le_refl _
    · exact Nat.zero_le _
theorem ways_len {I : Int → Int → Bool} (h : ∀ x y, I x y = true → (0 ≤ x ∧ x < 4) ∧ (0 ≤ y ∧ y < 4)) : (waysOf I).length ≤ 40 := by
  have u : (unitsOf I).length ≤ 40 := by
    unfold unitsOf
    rw [List.length_append]
    have a := flat_le (k := 4) (f := fun y => (lineU (fun t => I t y) (fun t => I t (y - 1))).map (embH y)) fives fun y _ => by rw [List.length_map]; exact lineU_len _ _
    have b := flat_le (k := 4) (f := fun x => (lineU (fun t => I (x - 1) t) (fun t => I x t)).map (embV x)) fives fun y _ => by rw [List.length_map]; exact lineU_len _ _
    have c : fives.length = 5 := rfl
    rw [c] at a b
    omega
  rw [← (units_perm h).length_eq] at u
  refine Nat.le_trans (len_le _ fun w hw => ?_) u
  unfold wayL expL
  split
  · rw [steps_len]
    exact far_ge I _ _ _ _ 6 1
  · exact Nat.le_refl _
theorem quad_det {a b c d : Int} (h : (a, b, c, d) ∈ quads) : 0 < a * d - b * c := by
  have : (quads.all fun q => decide (0 < q.1 * q.2.2.2 - q.2.1 * q.2.2.1)) = true := by decide
  exact of_decide_eq_true (List.all_eq_true.mp this _ h)
theorem lin_zero {a b c d x y : Int} (hD : 0 < a * d - b * c) (h1 : a * x + b * y = 0) (h2 : c * x + d * y = 0) : x = 0 ∧ y = 0 := by
  have e1 : (a * d - b * c) * x = d * (a * x + b * y) - b * (c * x + d * y) := by grind
  have e2 : (a * d - b * c) * y = a * (c * x + d * y) - c * (a * x + b * y) := by grind
  rw [h1, h2] at e1 e2
  simp only [Int.mul_zero, Int.sub_zero] at e1 e2
  rcases Int.mul_eq_zero.mp e1 with z | z
  · omega
  · rcases Int.mul_eq_zero.mp e2 with z' | z'
    · omega
    · exact ⟨z, z'⟩
structure FrD (D N t b : Int) : Prop where
  pos : 0 < b
  one : G t b = 1
  eq : t * D = N * b
theorem gcd_dvd_of {t b D N : Int} (h : G t b = 1) (e : t * D = N * b) : b ∣ D := by
  have g : Nat.Coprime b.natAbs t.natAbs := by
    unfold G at h
    have : Int.gcd t b = 1 := by omega
    rw [Int.gcd_eq_natAbs_gcd_natAbs, Nat.gcd_comm] at this
    exact this
  have d : b.natAbs ∣ t.natAbs * D.natAbs := ⟨N.natAbs, by rw [← Int.natAbs_mul, e, Int.natAbs_mul, Nat.mul_comm]⟩
  exact Int.natAbs_dvd_natAbs.mp (g.dvd_of_dvd_mul_left d)
theorem FrD.le {D N t b : Int} (h : FrD D N t b) (hD : 0 < D) : b.natAbs ≤ D.natAbs ∧ t.natAbs ≤ N.natAbs := by
  obtain ⟨k, hk⟩ := gcd_dvd_of h.one h.eq
  have hb := h.pos
  have kp : 0 < k := by
    rw [hk] at hD
    exact (sgn_scale hb).2.1.mp hD
  have e : t * k = N := by
    have := h.eq
    rw [hk] at this
    refine Int.eq_of_mul_eq_mul_right (show b ≠ 0 by omega) ?_
    rw [← this]
    grind
  constructor
  · rw [hk, Int.natAbs_mul]
    exact Nat.le_mul_of_pos_right _ (by omega)
  · rw [← e, Int.natAbs_mul]
    exact Nat.le_mul_of_pos_right _ (by omega)
theorem FrD.mono {D N t b k : Int} (hk : k ≠ 0) (h : FrD (k * D) (k * N) t b) : FrD D N t b := by
  refine ⟨h.pos, h.one, ?_⟩
  have e := h.eq
  refine Int.eq_of_mul_eq_mul_left hk ?_
  calc k * (t * D) = t * (k * D) := by grind
    _ = k * (N * b) := by rw [e]; grind
theorem MOk.mm {M : M7} (h : MOk M) : M.m * M.m = 1 ∨ M.m * M.m = 4 ∨ M.m * M.m = 9 ∨ M.m * M.m = 36 := by
  rcases h.m with e | e | e | e <;> rw [e] <;> decide
def inB (bs : List Bool) (x y : Int) : Bool := decide (0 ≤ x ∧ x < 4) && (decide (0 ≤ y ∧ y < 4) && bs.getD (4 * y + x).toNat false)
theorem inB_in (bs : List Bool) : ∀ x y, inB bs x y = true → (0 ≤ x ∧ x < 4) ∧ (0 ≤ y ∧ y < 4) := fun x y h => by
  unfold inB at h
  rw [Bool.and_eq_true, Bool.and_eq_true] at h
  exact ⟨of_decide_eq_true h.1, of_decide_eq_true h.2.1⟩
theorem sm_in {I : Int → Int → Bool} (h : ∀ x y, I x y = true → (0 ≤ x ∧ x < 4) ∧ (0 ≤ y ∧ y < 4)) {x y : Int} (s : smB I x y = true) : (0 ≤ x ∧ x ≤ 4) ∧ (0 ≤ y ∧ y ≤ 4) := by
  have key : I (x - 1) (y - 1) = true ∨ I x (y - 1) = true ∨ I (x - 1) y = true ∨ I x y = true := by
    unfold smB eH eV at s
    generalize I (x - 1) (y - 1) = a, I x (y - 1) = b, I (x - 1) y = c, I x y = d at *
    revert a b c d
    decide
  rcases key with k | k | k | k <;> have := h _ _ k <;> omega
theorem far_true {I : Int → Int → Bool} {x y dx dy : Int} {f : Nat} (hf : f ≤ 6) (s : smB I (x + f * dx) (y + f * dy) = true) : farN I x y dx dy (7 - f) f = farN I x y dx dy (7 - (f + 1)) (f + 1) := by
  rw [show 7 - f = (7 - (f + 1)) + 1 by omega, farN, if_pos s]
theorem far_false {I : Int → Int → Bool} {x y dx dy : Int} {f : Nat} (hf : f ≤ 6) (s : smB I (x + f * dx) (y + f * dy) = false) : farN I x y dx dy (7 - f) f = f := by
  rw [show 7 - f = (7 - (f + 1)) + 1 by omega, farN, if_neg (by rw [s]; decide)]
theorem far_lt {I : Int → Int → Bool} (h : ∀ x y, I x y = true → (0 ≤ x ∧ x < 4) ∧ (0 ≤ y ∧ y < 4)) {x y : Int} {d : Int × Int} {f : Nat} (hd : d ∈ dirs) (hx : 0 ≤ x ∧ x ≤ 4) (hy : 0 ≤ y ∧ y ≤ 4) (s : smB I (x + f * d.1) (y + f * d.2) = true) : f ≤ 4 := by
  have := sm_in h s
  unfold dirs at hd
  simp only [List.mem_cons, List.not_mem_nil, or_false] at hd
  rcases hd with rfl | rfl | rfl | rfl <;> simp only at this <;> omega
theorem quad_le {a b c d : Int} (h : (a, b, c, d) ∈ quads) : a.natAbs ≤ 5 ∧ b.natAbs ≤ 5 ∧ c.natAbs ≤ 5 ∧ d.natAbs ≤ 5 := by
  have : (quads.all fun q => decide (q.1.natAbs ≤ 5 ∧ q.2.1.natAbs ≤ 5 ∧ q.2.2.1.natAbs ≤ 5 ∧ q.2.2.2.natAbs ≤ 5)) = true := by decide
  exact of_decide_eq_true (List.all_eq_true.mp this _ h)
theorem lin_lt {a b e x y k : Int} (ha : a.natAbs ≤ 5) (hb : b.natAbs ≤ 5) (he : e.natAbs < 2 ^ 70) (hx : x.natAbs ≤ 20) (hy : y.natAbs ≤ 20) (hk : k.natAbs ≤ 2) : (a * x + b * y + e * k).natAbs < 2 ^ 80 := by
  have h1 : (a * x).natAbs ≤ 100 := by rw [Int.natAbs_mul]; exact Nat.mul_le_mul ha hx
  have h2 : (b * y).natAbs ≤ 100 := by rw [Int.natAbs_mul]; exact Nat.mul_le_mul hb hy
  have h3 : (e * k).natAbs ≤ 2 ^ 70 * 2 := by rw [Int.natAbs_mul]; exact Nat.mul_le_mul (Nat.le_of_lt he) hk
  have e1 : (2 : Nat) ^ 80 = 2 ^ 70 * 1024 := by decide
  have e0 : 1000 < (2 : Nat) ^ 70 := by decide
  omega
theorem sp_lt {M : M7} (hM : MOk M) {x y k : Int} (hx : x.natAbs ≤ 20) (hy : y.natAbs ≤ 20) (hk : k.natAbs ≤ 2) : (spQ M x y k).x.natAbs < 2 ^ 80 ∧ (spQ M x y k).y.natAbs < 2 ^ 80 ∧ (spQ M x y k).w.natAbs < 2 ^ 80 := by
  obtain ⟨a, b, c, d⟩ := quad_le hM.q
  refine ⟨lin_lt a b hM.e hx hy hk, lin_lt c d hM.f hx hy hk, ?_⟩
  unfold spQ
  dsimp only
  have h1 : (M.m * k).natAbs ≤ 6 * 2 := by
    rw [Int.natAbs_mul]
    exact Nat.mul_le_mul (by rcases hM.m with e | e | e | e <;> rw [e] <;> decide) hk
  exact Nat.lt_of_le_of_lt h1 (by decide)
theorem lo_lt {M : M7} (hM : MOk M) {x y k : Int} (hx : x.natAbs ≤ 20) (hy : y.natAbs ≤ 20) (hk : k.natAbs ≤ 2) : (loQ (spQ M x y k)).x.natAbs < 2 ^ 80 ∧ (loQ (spQ M x y k)).y.natAbs < 2 ^ 80 ∧ (loQ (spQ M x y k)).w.natAbs < 2 ^ 80 := by
  have a := sp_lt hM hx hy hk
  have b := (sc_loQ (spQ M x y k)).le
  omega
theorem way_in {I : Int → Int → Bool} (h : ∀ x y, I x y = true → (0 ≤ x ∧ x < 4) ∧ (0 ≤ y ∧ y < 4)) {w : W4} (hw : w ∈ waysOf I) : w.x0.natAbs ≤ 20 ∧ w.y0.natAbs ≤ 20 ∧ w.x1.natAbs ≤ 20 ∧ w.y1.natAbs ≤ 20 := by
  unfold waysOf at hw
  obtain ⟨u, hu, hw⟩ := List.mem_flatMap.mp hw
  have hd := (idx_dirs hu).1
  have hp : 0 ≤ u.x0 ∧ u.x0 ≤ 4 ∧ 0 ≤ u.y0 ∧ u.y0 ≤ 4 := by
    unfold idxK at hu
    obtain ⟨j, hj, hu⟩ := List.mem_flatMap.mp hu
    obtain ⟨d, hd, rfl⟩ := List.mem_map.mp hu
    have := List.mem_range.mp hj
    dsimp only
    omega
  have far_le : ∀ n f, farN I u.x0 u.y0 u.x1 u.y1 n f ≤ f + n := by
    intro n
    induction n with
    | zero => intro f; exact Nat.le_refl _
    | succ n ih =>
      intro f
      unfold farN
      split
      · have := ih (f + 1)
        omega
      · omega
  unfold wayL at hw
  split at hw
  · rw [List.mem_singleton] at hw
    subst hw
    have g := far_le 6 1
    generalize farN I u.x0 u.y0 u.x1 u.y1 6 1 = n at *
    dsimp only
    unfold dirs at hd
    simp only [List.mem_cons, List.not_mem_nil, or_false, Prod.mk.injEq] at hd
    rcases hd with ⟨e1, e2⟩ | ⟨e1, e2⟩ | ⟨e1, e2⟩ | ⟨e1, e2⟩ <;> rw [e1, e2] <;> omega
  · cases hw
end My
namespace Mine
open PySem L2 My
def top (i : Nat) : Stmt := PySem.Challenge.pw_acre_k23_fences_of_rows.main.body.getD i (.Pass ⟨0, 0, 0, 0⟩)
abbrev s_sign_of : Stmt := top 1
theorem sc_sign_of : FnScope ["number"] ["number"] (defScope s_sign_of) := ⟨rfl, rfl, rfl, by decide +kernel, rfl, by decide +kernel, by decide +kernel⟩
abbrev s_line_of : Stmt := top 2
theorem sc_line_of : FnScope ["P", "Q"] ["P", "Q"] (defScope s_line_of) := ⟨rfl, rfl, rfl, by decide +kernel, rfl, by decide +kernel, by decide +kernel⟩
abbrev s_side_of : Stmt := top 3
theorem sc_side_of : FnScope ["line", "P"] ["line", "P"] (defScope s_side_of) := ⟨rfl, rfl, rfl, by decide +kernel, rfl, by decide +kernel, by decide +kernel⟩
abbrev s_turn : Stmt := top 4
theorem sc_turn : FnScope ["P", "Q", "R"] ["P", "Q", "R"] (defScope s_turn) := ⟨rfl, rfl, rfl, by decide +kernel, rfl, by decide +kernel, by decide +kernel⟩
abbrev s_order_keys : Stmt := top 5
theorem sc_order_keys : FnScope ["points", "greatest", "scale", "keys", "P"] ["points"] (defScope s_order_keys) := ⟨rfl, rfl, rfl, by decide +kernel, rfl, by decide +kernel, by decide +kernel⟩
abbrev s_by_points : Stmt := top 6
theorem sc_by_points : FnScope ["things", "points", "thing", "keys"] ["things"] (defScope s_by_points) := ⟨rfl, rfl, rfl, by decide +kernel, rfl, by decide +kernel, by decide +kernel⟩
abbrev s_fences_of : Stmt := top 8
theorem sc_fences_of : FnScope ["rows", "fences", "S", "left", "right"] ["rows"] (defScope s_fences_of) := ⟨rfl, rfl, rfl, by decide +kernel, rfl, by decide +kernel, by decide +kernel⟩
abbrev s_straightened : Stmt := top 9
theorem sc_straightened : FnScope ["fences", "onward", "told", "first", "second", "last"] ["fences"] (defScope s_straightened) := ⟨rfl, rfl, rfl, by decide +kernel, rfl, by decide +kernel, by decide +kernel⟩
abbrev s_straight_on : Stmt := top 10
theorem sc_straight_on : FnScope ["fences", "coming", "going", "P", "Q", "onward"] ["fences"] (defScope s_straight_on) := ⟨rfl, rfl, rfl, by decide +kernel, rfl, by decide +kernel, by decide +kernel⟩
abbrev s_law_cell_at : Stmt := top 12
theorem sc_law_cell_at : FnScope ["_law_script", "_law_k"] ["_law_script", "_law_k"] (defScope s_law_cell_at) := ⟨rfl, rfl, rfl, by decide +kernel, rfl, by decide +kernel, by decide +kernel⟩
abbrev s_law_whole : Stmt := top 13
theorem sc_law_whole : FnScope ["_law_found"] ["_law_found"] (defScope s_law_whole) := ⟨rfl, rfl, rfl, by decide +kernel, rfl, by decide +kernel, by decide +kernel⟩
abbrev s_law_held : Stmt := top 14
theorem sc_law_held : FnScope ["_law_cell", "_law_held_here", "_law_k"] ["_law_cell"] (defScope s_law_held) := ⟨rfl, rfl, rfl, by decide +kernel, rfl, by decide +kernel, by decide +kernel⟩
abbrev s_law_in : Stmt := top 15
theorem sc_law_in : FnScope ["_law_held_here", "_law_x", "_law_y"] ["_law_held_here", "_law_x", "_law_y"] (defScope s_law_in) := ⟨rfl, rfl, rfl, by decide +kernel, rfl, by decide +kernel, by decide +kernel⟩
abbrev s_law_edge : Stmt := top 16
theorem sc_law_edge : FnScope ["_law_held_here", "_law_x", "_law_y", "_law_way", "_law_one"] ["_law_held_here", "_law_x", "_law_y", "_law_way"] (defScope s_law_edge) := ⟨rfl, rfl, rfl, by decide +kernel, rfl, by decide +kernel, by decide +kernel⟩
abbrev s_law_smooth : Stmt := top 17
theorem sc_law_smooth : FnScope ["_law_held_here", "_law_x", "_law_y", "_law_flat", "_law_tall"] ["_law_held_here", "_law_x", "_law_y"] (defScope s_law_smooth) := ⟨rfl, rfl, rfl, by decide +kernel, rfl, by decide +kernel, by decide +kernel⟩
abbrev s_law_leaves : Stmt := top 18
theorem sc_law_leaves : FnScope ["_law_held_here", "_law_x", "_law_y", "_law_dx", "_law_dy"] ["_law_held_here", "_law_x", "_law_y", "_law_dx", "_law_dy"] (defScope s_law_leaves) := ⟨rfl, rfl, rfl, by decide +kernel, rfl, by decide +kernel, by decide +kernel⟩
abbrev s_law_ways : Stmt := top 19
theorem sc_law_ways : FnScope ["_law_held_here", "_law_ways_here", "_law_k", "_law_x", "_law_y", "_law_dx", "_law_dy", "_law_far"] ["_law_held_here"] (defScope s_law_ways) := ⟨rfl, rfl, rfl, by decide +kernel, rfl, by decide +kernel, by decide +kernel⟩
abbrev s_law_map : Stmt := top 20
theorem sc_law_map : FnScope ["_law_cell", "_law_some", "_law_far", "_law_right", "_law_high"] ["_law_cell"] (defScope s_law_map) := ⟨rfl, rfl, rfl, by decide +kernel, rfl, by decide +kernel, by decide +kernel⟩
abbrev s_law_spot : Stmt := top 21
theorem sc_law_spot : FnScope ["_law_map_of", "_law_x", "_law_y", "_law_w", "_law_right", "_law_high"] ["_law_map_of", "_law_x", "_law_y", "_law_w"] (defScope s_law_spot) := ⟨rfl, rfl, rfl, by decide +kernel, rfl, by decide +kernel, by decide +kernel⟩
abbrev s_law_low : Stmt := top 22
theorem sc_law_low : FnScope ["_law_spot_here", "_law_x", "_law_y", "_law_w", "_law_d"] ["_law_spot_here"] (defScope s_law_low) := ⟨rfl, rfl, rfl, by decide +kernel, rfl, by decide +kernel, by decide +kernel⟩
abbrev s_law_land : Stmt := top 23
theorem sc_law_land : FnScope ["_law_held_here", "_law_map_of", "_law_fences", "_law_way"] ["_law_held_here", "_law_map_of"] (defScope s_law_land) := ⟨rfl, rfl, rfl, by decide +kernel, rfl, by decide +kernel, by decide +kernel⟩
abbrev s_law_alike : Stmt := top 24
theorem sc_law_alike : FnScope ["_law_found", "_law_due", "_law_k"] ["_law_found", "_law_due"] (defScope s_law_alike) := ⟨rfl, rfl, rfl, by decide +kernel, rfl, by decide +kernel, by decide +kernel⟩
abbrev s_law_rows : Stmt := top 25
theorem sc_law_rows : FnScope ["_law_held_here", "_law_map_of", "_law_rows_here", "_law_k", "_law_x", "_law_y", "_law_dx", "_law_one", "_law_other", "_law_left", "_law_right"] ["_law_held_here", "_law_map_of"] (defScope s_law_rows) := ⟨rfl, rfl, rfl, by decide +kernel, rfl, by decide +kernel, by decide +kernel⟩
abbrev s_law : Stmt := top 26
theorem sc_law : FnScope ["_law_script", "_law_held_here", "_law_map_of", "_law_rows_here", "_law_handed", "_law_found", "_law_due", "_law_other"] ["_law_script"] (defScope s_law) := ⟨rfl, rfl, rfl, by decide +kernel, rfl, by decide +kernel, by decide +kernel⟩
structure FnAt (K : PySem.W.Frag) (mg : Str → Option Value) (x : Str) (st : Stmt) (ps : List Str) (f : Addr) (fd : FuncData) : Prop where
  fn : Fun K x x st f fd
  bn : Binds K fd ps []
  mg : mg x = some (.ref f)
structure Txt (K : PySem.W.Frag) (mg : Str → Option Value) (ad : Nat → Addr) (fd : Nat → FuncData) : Prop where
  sign_of : FnAt K mg "sign_of" s_sign_of ["number"] (ad 0) (fd 0)
  line_of : FnAt K mg "line_of" s_line_of ["P", "Q"] (ad 1) (fd 1)
  side_of : FnAt K mg "side_of" s_side_of ["line", "P"] (ad 2) (fd 2)
  turn : FnAt K mg "turn" s_turn ["P", "Q", "R"] (ad 3) (fd 3)
  order_keys : FnAt K mg "order_keys" s_order_keys ["points"] (ad 4) (fd 4)
  by_points : FnAt K mg "by_points" s_by_points ["things"] (ad 5) (fd 5)
  by_points_c : FunC K "by_points" "by_points" s_by_points (ad 5) (fd 5) (ad 24) (ad 25)
  fences_of : FnAt K mg "fences_of" s_fences_of ["rows"] (ad 6) (fd 6)
  straightened : FnAt K mg "straightened" s_straightened ["fences"] (ad 7) (fd 7)
  straight_on : FnAt K mg "straight_on" s_straight_on ["fences"] (ad 8) (fd 8)
  law_cell_at : FnAt K mg "_law_cell_at" s_law_cell_at ["_law_script", "_law_k"] (ad 9) (fd 9)
  law_whole : FnAt K mg "_law_whole" s_law_whole ["_law_found"] (ad 10) (fd 10)
  law_held : FnAt K mg "_law_held" s_law_held ["_law_cell"] (ad 11) (fd 11)
  law_in : FnAt K mg "_law_in" s_law_in ["_law_held_here", "_law_x", "_law_y"] (ad 12) (fd 12)
  law_edge : FnAt K mg "_law_edge" s_law_edge ["_law_held_here", "_law_x", "_law_y", "_law_way"] (ad 13) (fd 13)
  law_smooth : FnAt K mg "_law_smooth" s_law_smooth ["_law_held_here", "_law_x", "_law_y"] (ad 14) (fd 14)
  law_leaves : FnAt K mg "_law_leaves" s_law_leaves ["_law_held_here", "_law_x", "_law_y", "_law_dx", "_law_dy"] (ad 15) (fd 15)
  law_ways : FnAt K mg "_law_ways" s_law_ways ["_law_held_here"] (ad 16) (fd 16)
  law_map : FnAt K mg "_law_map" s_law_map ["_law_cell"] (ad 17) (fd 17)
  law_spot : FnAt K mg "_law_spot" s_law_spot ["_law_map_of", "_law_x", "_law_y", "_law_w"] (ad 18) (fd 18)
  law_low : FnAt K mg "_law_low" s_law_low ["_law_spot_here"] (ad 19) (fd 19)
  law_land : FnAt K mg "_law_land" s_law_land ["_law_held_here", "_law_map_of"] (ad 20) (fd 20)
  law_alike : FnAt K mg "_law_alike" s_law_alike ["_law_found", "_law_due"] (ad 21) (fd 21)
  law_rows : FnAt K mg "_law_rows" s_law_rows ["_law_held_here", "_law_map_of"] (ad 22) (fd 22)
  law : FnAt K mg "law" s_law ["_law_script"] (ad 23) (fd 23)
  b_bool : mg "bool" = none
  b_int : mg "int" = none
  b_isinstance : mg "isinstance" = none
  b_len : mg "len" = none
  b_list : mg "list" = none
  b_max : mg "max" = none
  b_min : mg "min" = none
  b_range : mg "range" = none
  b_sorted : mg "sorted" = none
  b_tuple : mg "tuple" = none
def sp_whole : Sp := fun vs H Q _ => ∃ i : Int, vs = [.int i] ∧ Q (.bl true) H
def sp_cell (K : PySem.W.Frag) : Sp := fun vs H Q _ => ∃ (l : Addr) (ns : List Int) (k : Int), vs = [.ref l, .int k] ∧ SqL K H l (ns.map V.int) ∧ 0 ≤ k ∧ Q (.int (ns.getD k.toNat 0)) H
def PtH (n : Nat) (H : Hp) (p : Addr) (x y w : Int) : Prop := H p = some (.tup [.int x, .int y, .int w]) ∧ Pt n x y w
theorem PtH.same {n : Nat} {H H' : Hp} {p : Addr} {x y w : Int} (h : PtH n H p x y w) (g : Same H H') : PtH n H' p x y w := ⟨g _ _ h.1, h.2⟩
theorem PtH.mono {m n : Nat} {H : Hp} {p : Addr} {x y w : Int} (h : PtH m H p x y w) (hm : m ≤ n) : PtH n H p x y w := ⟨h.1, h.2.mono hm⟩
def Bd3 (n : Nat) (a b c : Int) : Prop := a.natAbs < 2 ^ n ∧ b.natAbs < 2 ^ n ∧ c.natAbs < 2 ^ n
def TB (n : Nat) (H : Hp) (p : Addr) (x y w : Int) : Prop := H p = some (.tup [.int x, .int y, .int w]) ∧ Bd3 n x y w
theorem TB.same {n : Nat} {H H' : Hp} {p : Addr} {x y w : Int} (h : TB n H p x y w) (g : Same H H') : TB n H' p x y w := ⟨g _ _ h.1, h.2⟩
theorem Bd3.mono {m n : Nat} {x y w : Int} (h : Bd3 m x y w) (hm : m ≤ n) : Bd3 n x y w := ⟨lt_mono h.1 hm, lt_mono h.2.1 hm, lt_mono h.2.2 hm⟩
theorem TB.mono {m n : Nat} {H : Hp} {p : Addr} {x y w : Int} (h : TB m H p x y w) (hm : m ≤ n := by decide) : TB n H p x y w := ⟨h.1, h.2.mono hm⟩
theorem Pt.bd {m n : Nat} {x y w : Int} (h : Pt m x y w) (hm : m ≤ n := by decide) : Bd3 n x y w := ⟨lt_mono h.lx hm, lt_mono h.ly hm, lt_mono h.lw hm⟩
theorem PtH.tb {m n : Nat} {H : Hp} {p : Addr} {x y w : Int} (h : PtH m H p x y w) (hm : m ≤ n := by decide) : TB n H p x y w := ⟨h.1, Pt.bd h.2 hm⟩
def sp_sign : Sp := fun vs H Q _ => ∃ z : Int, vs = [.int z] ∧ Q (.int (sgn z)) H
def sp_line : Sp := fun vs H Q _ => ∃ (p q : Addr) (x1 y1 w1 x2 y2 w2 : Int), vs = [.ref p, .ref q] ∧ TB 1000 H p x1 y1 w1 ∧ TB 1000 H q x2 y2 w2 ∧ ∀ (r : Addr) (H' : Hp), Same H H' →
  H' r = some (.tup [.int (lnA x1 y1 w1 x2 y2 w2), .int (lnB x1 y1 w1 x2 y2 w2), .int (lnC x1 y1 w1 x2 y2 w2)]) → Q (.ref r) H'
theorem ln_bd {x1 y1 w1 x2 y2 w2 : Int} (p : Bd3 1000 x1 y1 w1) (q : Bd3 1000 x2 y2 w2) : Bd3 2001 (lnA x1 y1 w1 x2 y2 w2) (lnB x1 y1 w1 x2 y2 w2) (lnC x1 y1 w1 x2 y2 w2) :=
  ⟨sub_lt (mul_lt p.2.1 q.2.2) (mul_lt p.2.2 q.2.1), sub_lt (mul_lt p.2.2 q.1) (mul_lt p.1 q.2.2), sub_lt (mul_lt p.1 q.2.1) (mul_lt p.2.1 q.1)⟩
def sp_side : Sp := fun vs H Q _ => ∃ (l p : Addr) (a b c x y w : Int), vs = [.ref l, .ref p] ∧ H l = some (.tup [.int a, .int b, .int c]) ∧ Bd3 2001 a b c ∧ H p = some (.tup [.int x, .int y, .int w]) ∧ Bd3 5000 x y w ∧ Q (.int (sgn (a * x + b * y + c * w))) H
def sp_turn : Sp := fun vs H Q _ => ∃ (p q r : Addr) (x1 y1 w1 x2 y2 w2 x3 y3 w3 : Int), vs = [.ref p, .ref q, .ref r] ∧ TB 1000 H p x1 y1 w1 ∧ TB 1000 H q x2 y2 w2 ∧ TB 5000 H r x3 y3 w3 ∧ ∀ H', Same H H' → Q (.int (sgn (det3 x1 y1 w1 x2 y2 w2 x3 y3 w3))) H'
def TupSame (H H' : Hp) : Prop := ∀ b xs, H b = some (.tup xs) → H' b = some (.tup xs)
theorem ts_same {H H' : Hp} (g : Same H H') : TupSame H H' := fun b xs h => g b _ h
theorem ts_put {H : Hp} {D : Addr} {ys : List V} {o : HO} (h : H D = some (.lst ys)) : TupSame H (upd H D o) := fun b xs q => by
  rw [upd_ne (ne_of q h (by intro z; cases z))]
  exact q
def PB (H : Hp) (p : Addr) : Prop := ∃ x y w : Int, TB 1000 H p x y w ∧ 0 < w
def PBn (n : Nat) (H : Hp) (p : Addr) : Prop := ∃ x y w : Int, TB n H p x y w ∧ 0 < w
theorem PBn.ts {n : Nat} {H H' : Hp} {p : Addr} (g : TupSame H H') (h : PBn n H p) : PBn n H' p := by
  obtain ⟨x, y, w, ⟨h1, h2⟩, h3⟩ := h
  exact ⟨x, y, w, ⟨g _ _ h1, h2⟩, h3⟩
theorem PBn.mono {m n : Nat} {H : Hp} {p : Addr} (h : PBn m H p) (hn : m ≤ n) : PBn n H p := by
  obtain ⟨x, y, w, h1, h3⟩ := h
  exact ⟨x, y, w, h1.mono hn, h3⟩
theorem PB.ts {H H' : Hp} {p : Addr} (g : TupSame H H') (h : PB H p) : PB H' p := by
  obtain ⟨x, y, w, ⟨h1, h2⟩, h3⟩ := h
  exact ⟨x, y, w, ⟨g _ _ h1, h2⟩, h3⟩
def StV (H : Hp) (p : Addr) (d : S6) : Prop := ∃ a b, H p = some (.tup [.ref a, .ref b]) ∧ TB 1000 H a d.x1 d.y1 d.w1 ∧ TB 1000 H b d.x2 d.y2 d.w2
theorem TB.ts {n : Nat} {H H' : Hp} {p : Addr} {x y w : Int} (h : TB n H p x y w) (g : TupSame H H') : TB n H' p x y w := ⟨g _ _ h.1, h.2⟩
theorem StV.ts {H H' : Hp} {p : Addr} {d : S6} (h : StV H p d) (g : TupSame H H') : StV H' p d := by
  obtain ⟨a, b, h1, h2, h3⟩ := h
  exact ⟨a, b, g _ _ h1, h2.ts g, h3.ts g⟩
def StL (H : Hp) (ys : List V) (ds : List S6) : Prop := ys.length = ds.length ∧ ∀ (j : Nat) (v : V), ys[j]? = some v → ∃ (p : Addr) (d : S6), v = .ref p ∧ ds[j]? = some d ∧ StV H p d
theorem StL.ts {H H' : Hp} {ys : List V} {ds : List S6} (h : StL H ys ds) (g : TupSame H H') : StL H' ys ds := ⟨h.1, fun j v z => by
  obtain ⟨p, d, e, f, s⟩ := h.2 j v z
  exact ⟨p, d, e, f, s.ts g⟩⟩
theorem StL.nil {H : Hp} : StL H [] [] := ⟨rfl, fun j v z => by cases z⟩
theorem StL.snoc {H : Hp} {ys : List V} {ds : List S6} {p : Addr} {d : S6} (h : StL H ys ds) (s : StV H p d) : StL H (ys ++ [.ref p]) (ds ++ [d]) := by
  refine ⟨by rw [List.length_append, List.length_append, h.1]; rfl, fun j v z => ?_⟩
  by_cases hj : j < ys.length
  · rw [List.getElem?_append_left hj] at z
    obtain ⟨q, e, f, g, t⟩ := h.2 j v z
    exact ⟨q, e, f, by rw [List.getElem?_append_left (by rw [← h.1]; exact hj)]; exact g, t⟩
  · rw [List.getElem?_append_right (by omega)] at z
    cases e : j - ys.length with
    | zero =>
      rw [e] at z
      cases z
      exact ⟨p, d, rfl, by rw [List.getElem?_append_right (by rw [← h.1]; omega), ← h.1, e]; rfl, s⟩
    | succ n => rw [e] at z; cases z
theorem rd_bl {K : PySem.W.Frag} {H : Hp} {b : Bool} : RdD K H (.bool b) (.bl b) := by rw [RdD]
structure P3 where
  x : Int
  y : Int
  w : Int
def sd1 (p q : P3) : S6 := if bef p.x p.y p.w q.x q.y q.w = true then ⟨p.x, p.y, p.w, q.x, q.y, q.w⟩ else ⟨q.x, q.y, q.w, p.x, p.y, p.w⟩
def sd (p q : P3) : List S6 := if p.x = q.x ∧ p.y = q.y ∧ p.w = q.w then [] else [sd1 p q]
def RgH (H : Hp) (p : Addr) (r : List P3) : Prop := ∃ zs, H p = some (.lst zs) ∧ zs.length = r.length ∧ r.length ≤ 20 ∧ ∀ (k : Nat) (v : V), zs[k]? = some v → ∃ (a : Addr) (c : P3), v = .ref a ∧ r[k]? = some c ∧ TB 1000 H a c.x c.y c.w
theorem RgH.same {H H' : Hp} {p : Addr} {r : List P3} (h : RgH H p r) (g : Same H H') : RgH H' p r := by
  obtain ⟨zs, h1, h2, h3, h4⟩ := h
  refine ⟨zs, g _ _ h1, h2, h3, fun k v z => ?_⟩
  obtain ⟨a, c, e, f, t⟩ := h4 k v z
  exact ⟨a, c, e, f, t.same g⟩
def RgL (H : Hp) (ys : List V) (rs : List (List P3)) : Prop := ys.length = rs.length ∧ ∀ (j : Nat) (v : V), ys[j]? = some v → ∃ (p : Addr) (r : List P3), v = .ref p ∧ rs[j]? = some r ∧ RgH H p r
theorem RgL.same {H H' : Hp} {ys : List V} {rs : List (List P3)} (h : RgL H ys rs) (g : Same H H') : RgL H' ys rs := ⟨h.1, fun j v z => by
  obtain ⟨p, r, e, f, t⟩ := h.2 j v z
  exact ⟨p, r, e, f, t.same g⟩⟩
theorem RgL.nil {H : Hp} : RgL H [] [] := ⟨rfl, fun j v z => by cases z⟩
def Al : Nat → Hp → V → V → Prop
  | 0, _, _, _ => False
  | n + 1, H, x, y => (∃ i : Int, x = .int i ∧ y = .int i) ∨ ∃ (p q : Addr) (xs ys : List V), x = .ref p ∧ y = .ref q ∧ ((H p = some (.tup xs) ∧ H q = some (.tup ys)) ∨ (H p = some (.lst xs) ∧ H q = some (.lst ys))) ∧ xs.length = ys.length ∧ ys.length ≤ 1000 ∧ ∀ (j : Nat) (u v : V), xs[j]? = some u → ys[j]? = some v → Al n H u v
def sp_alike (n : Nat) : Sp := fun vs H Q _ => ∃ x y : V, vs = [x, y] ∧ Al n H x y ∧ Q (.bl true) H
theorem sp_alike_zero {vs : List V} {H : Hp} {Q : VK} {E : XK} (h : sp_alike 0 vs H Q E) : False := by
  obtain ⟨x, y, _, h, _⟩ := h
  exact h
def LR {α : Type} (R : Hp → Addr → α → Prop) (H : Hp) (ys : List V) (as : List α) : Prop := ys.length = as.length ∧ ∀ (j : Nat) (v : V), ys[j]? = some v → ∃ (p : Addr) (a : α), v = .ref p ∧ as[j]? = some a ∧ R H p a
section
variable {α : Type} {R : Hp → Addr → α → Prop}
theorem LR.ts (hR : ∀ H H' p a, TupSame H H' → R H p a → R H' p a) {H H' : Hp} {ys : List V} {as : List α} (h : LR R H ys as) (g : TupSame H H') : LR R H' ys as := ⟨h.1, fun j v z => by
  obtain ⟨p, d, e, f, s⟩ := h.2 j v z
  exact ⟨p, d, e, f, hR _ _ _ _ g s⟩⟩
theorem LR.nil {H : Hp} : LR R H [] [] := ⟨rfl, fun j v z => by cases z⟩
theorem LR.app {H : Hp} {ys zs : List V} {as bs : List α} (h : LR R H ys as) (h' : LR R H zs bs) : LR R H (ys ++ zs) (as ++ bs) := by
  refine ⟨by rw [List.length_append, List.length_append, h.1, h'.1], fun j v z => ?_⟩
  by_cases hj : j < ys.length
  · rw [List.getElem?_append_left hj] at z
    obtain ⟨q, e, f, g, t⟩ := h.2 j v z
    exact ⟨q, e, f, by rw [List.getElem?_append_left (by rw [← h.1]; exact hj)]; exact g, t⟩
  · rw [List.getElem?_append_right (by omega)] at z
    obtain ⟨q, e, f, g, t⟩ := h'.2 _ v z
    exact ⟨q, e, f, by rw [List.getElem?_append_right (by rw [← h.1]; omega), ← h.1]; exact g, t⟩
theorem LR.one {H : Hp} {p : Addr} {a : α} (s : R H p a) : LR R H [.ref p] [a] := ⟨rfl, fun j v z => by
  cases j with
  | zero => cases z; exact ⟨p, a, rfl, rfl, s⟩
  | succ n => cases z⟩
theorem LR.snoc {H : Hp} {ys : List V} {as : List α} {p : Addr} {a : α} (h : LR R H ys as) (s : R H p a) : LR R H (ys ++ [.ref p]) (as ++ [a]) := h.app (.one s)
theorem LR.drop {H : Hp} {ys : List V} {as : List α} (h : LR R H ys as) (n : Nat) : LR R H (ys.drop n) (as.drop n) := by
  refine ⟨by rw [List.length_drop, List.length_drop, h.1], fun j v z => ?_⟩
  rw [List.getElem?_drop] at z
  obtain ⟨q, e, f, g, t⟩ := h.2 _ v z
  exact ⟨q, e, f, by rw [List.getElem?_drop]; exact g, t⟩
theorem LR.at {H : Hp} {ys : List V} {as : List α} (h : LR R H ys as) {j : Nat} (hj : j < ys.length) : ∃ (p : Addr) (a : α), ys[j]? = some (.ref p) ∧ as[j]? = some a ∧ R H p a := by
  obtain ⟨p, a, e, f, r⟩ := h.2 j ys[j] (List.getElem?_eq_getElem hj)
  exact ⟨p, a, by rw [List.getElem?_eq_getElem hj, e], f, r⟩
theorem LR.map {β : Type} {f : β → α} {H : Hp} {ys : List V} {bs : List β} (h : LR (fun H p b => R H p (f b)) H ys bs) : LR R H ys (bs.map f) := by
  refine ⟨by rw [List.length_map, h.1], fun j v z => ?_⟩
  obtain ⟨q, e, g, k, t⟩ := h.2 _ v z
  exact ⟨q, f e, g, by rw [List.getElem?_map, k]; rfl, t⟩
theorem LR.cons {H : Hp} {v : V} {vs : List V} {a : α} {as : List α} (h : ∃ p, v = .ref p ∧ R H p a) (t : LR R H vs as) : LR R H (v :: vs) (a :: as) := by
  obtain ⟨p, rfl, r⟩ := h
  exact (LR.one r).app t
def iv_lr (R : Hp → Addr → α → Prop) (as : List α) (H2 : Hp) (D : Addr) : Nat → List V → Hp → Prop := fun i ys H' => Same H2 H' ∧ H' D = some (.lst ys) ∧ ys.length = i ∧ LR R H' ys (as.take i)
theorem iv_lr_nil {as : List α} {H2 : Hp} {D : Addr} (hD : H2 D = none) : iv_lr R as H2 D 0 [] (upd H2 D (.lst [])) := ⟨same_new hD _, upd_same, rfl, by rw [List.take_zero]; exact .nil⟩
theorem iv_lr_put (hR : ∀ H H' p a, TupSame H H' → R H p a → R H' p a) {m : Nat} {H2 H3 H4 : Hp} {D : Addr} {i : Nat} {ys : List V} {p : Addr} {as : List α} {a : α} (hD : H2 D = none) (hm : m < 100000) (iv : iv_lr R as H2 D i ys H3) (hi : i < m) (ha : as[i]? = some a) (g4 : Same H3 H4) (hp : R H4 p a) : CPut m (iv_lr R as H2 D) D i (.ref p) H4 := by
  obtain ⟨g3', hD3, hy, hall⟩ := iv
  have hD4 := g4 _ _ hD3
  refine cw_put hi hD4 (by rw [hy]; exact Nat.lt_trans hi (Nat.lt_trans hm (by decide))) ⟨same_put (g3'.trans g4) hD, upd_same, by rw [List.length_append, hy]; rfl, ?_⟩
  rw [List.take_add_one, ha]
  exact ((hall.ts hR (ts_same g4)).snoc hp).ts hR (ts_put hD4)
end
def BL (H : Hp) (l : Addr) (bs : List Bool) : Prop := H l = some (.lst (bs.map V.bl)) ∧ bs.length = 16
theorem BL.same {H H' : Hp} {l : Addr} {bs : List Bool} (h : BL H l bs) (g : Same H H') : BL H' l bs := ⟨g _ _ h.1, h.2⟩
def sp_held : Sp := fun vs H Q _ => ∃ c : Int, vs = [.int c] ∧ ∀ l bs H', Same H H' → BL H' l bs → Q (.ref l) H'
def sp_in : Sp := fun vs H Q _ => ∃ (l : Addr) (bs : List Bool) (x y : Int), vs = [.ref l, .int x, .int y] ∧ BL H l bs ∧ Q (.bl (inB bs x y)) H
def edV (I : Int → Int → Bool) (x y k : Int) : Int := if k = 0 then eH I x y else eV I x y
def sp_edge : Sp := fun vs H Q _ => ∃ (l : Addr) (bs : List Bool) (x y k : Int), vs = [.ref l, .int x, .int y, .int k] ∧ BL H l bs ∧ Q (.int (edV (inB bs) x y k)) H
def sp_smooth : Sp := fun vs H Q _ => ∃ (l : Addr) (bs : List Bool) (x y : Int), vs = [.ref l, .int x, .int y] ∧ BL H l bs ∧ ∀ H', Same H H' → Q (.bl (smB (inB bs) x y)) H'
def sp_leaves : Sp := fun vs H Q _ => ∃ (l : Addr) (bs : List Bool) (x y dx dy : Int), vs = [.ref l, .int x, .int y, .int dx, .int dy] ∧ BL H l bs ∧ Q (.bl (lvB (inB bs) x y dx dy)) H
def W4H (H : Hp) (p : Addr) (w : W4) : Prop := H p = some (.tup [.int w.x0, .int w.y0, .int w.x1, .int w.y1])
theorem w4h_ts : ∀ (H H' : Hp) (p : Addr) (w : W4), TupSame H H' → W4H H p w → W4H H' p w := fun _ _ _ _ g h => g _ _ h
def sp_ways : Sp := fun vs H Q _ => ∃ (l : Addr) (bs : List Bool), vs = [.ref l] ∧ BL H l bs ∧ ∀ D zs H', H D = none → Same H H' → H' D = some (.lst zs) → LR W4H H' zs (waysOf (inB bs)) → Q (.ref D) H'
def MpH (H : Hp) (p : Addr) (M : M7) : Prop := H p = some (.tup [.int M.a, .int M.b, .int M.c, .int M.d, .int M.e, .int M.f, .int M.m]) ∧ MOk M
theorem MpH.same {H H' : Hp} {p : Addr} {M : M7} (h : MpH H p M) (g : Same H H') : MpH H' p M := ⟨g _ _ h.1, h.2⟩
def sp_map : Sp := fun vs H Q _ => ∃ c : Int, vs = [.int c] ∧ ∀ p M H', Same H H' → MpH H' p M → Q (.ref p) H'
def QH (H : Hp) (p : Addr) (r : Q3) : Prop := H p = some (.tup [.int r.x, .int r.y, .int r.w])
def sp_spot : Sp := fun vs H Q _ => ∃ (p : Addr) (M : M7) (x y k : Int), vs = [.ref p, .int x, .int y, .int k] ∧ MpH H p M ∧ x.natAbs ≤ 20 ∧ y.natAbs ≤ 20 ∧ k.natAbs ≤ 2 ∧ ∀ r H', Same H H' → QH H' r (spQ M x y k) → Q (.ref r) H'
def sp_low : Sp := fun vs H Q _ => ∃ (p : Addr) (r : Q3), vs = [.ref p] ∧ QH H p r ∧ ∀ q H', Same H H' → QH H' q (loQ r) → Q (.ref q) H'
section
variable {P : Program} {w : World} {K : PySem.W.Frag} {mg : Str → Option Value} {base : Heap} {ad : Nat → Addr} {fd : Nat → FuncData}
theorem ok_sign_of (T : Txt K mg ad fd) : FnOk P w K mg base CX0 1 (ad 0) (fd 0) ["number"] sp_sign := by
  refine T.sign_of.fn.ok sc_sign_of (fun vs H Q E h => ?_) (fun cdv A outer s H vs Q E hr h => ?_)
  · obtain ⟨z, rfl, _⟩ := h
    rfl
  obtain ⟨z, rfl, k⟩ := h
  have qpss3 := @pss3
  have qps_if := @ps_if
  have qpt_cmpR := @pt_cmpR
  have qpv := @pv
  have qpe_int := @pe_int
  have qpss_one := @pss_one
  have qps_ret := @ps_ret
  have qpss_nil := @pss_nil
  have qpe_un := @pe_un
  generalize @L2.PE = QE, @L2.PT = QT, @L2.PW = QW, @L2.PA = QA, @L2.PS = QS, @L2.PSs = QSs, @L2.PG = QG, @L2.PGs = QGs, @L2.PI = QI, @L2.PO = QO, @L2.PIf = QIf at qpss3 qps_if qpt_cmpR qpv qpe_int qpss_one qps_ret qpss_nil qpe_un ⊢
  refine ⟨_,
    (qpss3
      (qps_if (qpt_cmpR op_gt (qpv 0) qpe_int (nomark _)) (qpss_one (qps_ret qpe_int)) qpss_nil)
      (qps_if (qpt_cmpR op_lt (qpv 0) qpe_int (nomark _)) (qpss_one (qps_ret (qpe_un un_neg qpe_int))) qpss_nil)
      (qps_ret qpe_int))
    , ?_⟩
  clear  qpss3 qps_if qpt_cmpR qpv qpe_int qpss_one qps_ret qpss_nil qpe_un QE QT QW QA QS QSs QG QGs QI QO QIf
  simp only [tSeq, tNext, tRet, tRetN, tIfS, tAsg, gName, tDrop, tVar, tC, tOp, tUn, rI, rI0, rU, rEq, rNe, tTest, tB, tNot, tAnd, tOr, tAndV, tOrV, tNotV, tIf, tCB, tCall, tNil, tCons, tTup, tLst, gTup, gCons, gNil, L2.start, rIsi, rIxT, rIxL, cx_K, tyN_non, tyN_bl, tyN_int, tyN_str, isi_ii, isi_ib, isi_it, isi_il, isi_bi, isi_bb, isi_tt, isi_ni, isi_si, isi_ti, isi_li, isi_di, isi_ll, scal_ii, scal_bb, sz0, sz1, sz2, sz3, sz4, List.map_cons, List.map_nil, List.length_cons, List.length_nil, List.replicate, List.cons_append, List.nil_append, List.append_nil, List.getElem?_cons_zero, List.getElem?_cons_succ, List.set_cons_zero, List.set_cons_succ, Option.some.injEq, V.int.injEq, V.bl.injEq, V.ref.injEq, V.ty.injEq, List.cons.injEq, and_true, true_and, exists_eq_left, exists_eq_left', exists_and_left, exists_and_right, exists_eq, exists_eq', and_assoc, Nat.reduceAdd, Nat.reduceSub, Bool.not_true, Bool.not_false, Bool.false_eq_true, if_true, if_false, reduceIte, Nat.zero_add, decide_true, decide_false, selC, comp_K, tYes, Option.join_some, rIxTH, rIxLH, rLenH, rIsiF, at0, at1, at2, at3, at4, at5, at6, at7, at8, HO.tup.injEq, HO.lst.injEq, reduceCtorEq, false_or, or_false, tyF_non, tyF_bl, tyF_int, tyF_str, exists_const, Int.reduceAdd, Int.reduceMul, Int.reduceSub, gSub, rSetL, tSl, tPart, tNoPart, rSlH, upd_same, upd_upd, rIntB, rListH, tBM, tBM0, rAppend, rClear, tPar, gTupH]
  unfold sgn at k
  refine ite2 (fun c => ?_) (fun c => ite2 (fun c2 => ?_) (fun c2 => ?_))
  · rw [if_pos (of_decide_eq_true c)] at k
    exact k
  · rw [if_neg (fun z => c (decide_eq_true z)), if_pos (of_decide_eq_true c2)] at k
    exact k
  · rw [if_neg (fun z => c (decide_eq_true z)), if_neg (fun z => c2 (decide_eq_true z))] at k
    exact k
theorem ok_line_of (T : Txt K mg ad fd) : FnOk P w K mg base CX0 1 (ad 1) (fd 1) ["P", "Q"] sp_line := by
  refine T.line_of.fn.ok sc_line_of (fun vs H Q E h => ?_) (fun cdv A outer s H vs Q E hr h => ?_)
  · obtain ⟨p, q, x1, y1, w1, x2, y2, w2, rfl, _⟩ := h
    rfl
  obtain ⟨p, q, x1, y1, w1, x2, y2, w2, rfl, ⟨hp, pp⟩, ⟨hq, pq⟩, k⟩ := h
  have qpss_one := @pss_one
  have qps_ret := @ps_ret
  have qpe_tup := @pe_tup
  have qpa3 := @pa3
  have qpe_op := @pe_op
  have qpe_ix := @pe_ix
  have qpv := @pv
  have qpe_int := @pe_int
  generalize @L2.PE = QE, @L2.PT = QT, @L2.PW = QW, @L2.PA = QA, @L2.PS = QS, @L2.PSs = QSs, @L2.PG = QG, @L2.PGs = QGs, @L2.PI = QI, @L2.PO = QO, @L2.PIf = QIf at qpss_one qps_ret qpe_tup qpa3 qpe_op qpe_ix qpv qpe_int ⊢
  refine ⟨_,
    (qpss_one (qps_ret (qpe_tup (qpa3 (qpe_op op_sub (qpe_op op_mulB (qpe_ix ix_tupH (qpv 0) qpe_int (fun _ _ => rfl)) (qpe_ix ix_tupH (qpv 1) qpe_int (fun _ _ => rfl))) (qpe_op op_mulB (qpe_ix ix_tupH (qpv 0) qpe_int (fun _ _ => rfl)) (qpe_ix ix_tupH (qpv 1) qpe_int (fun _ _ => rfl)))) ns_BinOp (qpe_op op_sub (qpe_op op_mulB (qpe_ix ix_tupH (qpv 0) qpe_int (fun _ _ => rfl)) (qpe_ix ix_tupH (qpv 1) qpe_int (fun _ _ => rfl))) (qpe_op op_mulB (qpe_ix ix_tupH (qpv 0) qpe_int (fun _ _ => rfl)) (qpe_ix ix_tupH (qpv 1) qpe_int (fun _ _ => rfl)))) ns_BinOp (qpe_op op_sub (qpe_op op_mulB (qpe_ix ix_tupH (qpv 0) qpe_int (fun _ _ => rfl)) (qpe_ix ix_tupH (qpv 1) qpe_int (fun _ _ => rfl))) (qpe_op op_mulB (qpe_ix ix_tupH (qpv 0) qpe_int (fun _ _ => rfl)) (qpe_ix ix_tupH (qpv 1) qpe_int (fun _ _ => rfl)))) ns_BinOp))))
    , ?_⟩
  clear  qpss_one qps_ret qpe_tup qpa3 qpe_op qpe_ix qpv qpe_int QE QT QW QA QS QSs QG QGs QI QO QIf
  simp only [tSeq, tNext, tRet, tRetN, tIfS, tAsg, gName, tDrop, tVar, tC, tOp, tUn, rI, rI0, rU, rEq, rNe, tTest, tB, tNot, tAnd, tOr, tAndV, tOrV, tNotV, tIf, tCB, tCall, tNil, tCons, tTup, tLst, gTup, gCons, gNil, L2.start, rIsi, rIxT, rIxL, cx_K, tyN_non, tyN_bl, tyN_int, tyN_str, isi_ii, isi_ib, isi_it, isi_il, isi_bi, isi_bb, isi_tt, isi_ni, isi_si, isi_ti, isi_li, isi_di, isi_ll, scal_ii, scal_bb, sz0, sz1, sz2, sz3, sz4, List.map_cons, List.map_nil, List.length_cons, List.length_nil, List.replicate, List.cons_append, List.nil_append, List.append_nil, List.getElem?_cons_zero, List.getElem?_cons_succ, List.set_cons_zero, List.set_cons_succ, Option.some.injEq, V.int.injEq, V.bl.injEq, V.ref.injEq, V.ty.injEq, List.cons.injEq, and_true, true_and, exists_eq_left, exists_eq_left', exists_and_left, exists_and_right, exists_eq, exists_eq', and_assoc, Nat.reduceAdd, Nat.reduceSub, Bool.not_true, Bool.not_false, Bool.false_eq_true, if_true, if_false, reduceIte, Nat.zero_add, decide_true, decide_false, selC, comp_K, tYes, Option.join_some, rIxTH, rIxLH, rLenH, rIsiF, at0, at1, at2, at3, at4, at5, at6, at7, at8, HO.tup.injEq, HO.lst.injEq, reduceCtorEq, false_or, or_false, tyF_non, tyF_bl, tyF_int, tyF_str, exists_const, Int.reduceAdd, Int.reduceMul, Int.reduceSub, gSub, rSetL, tSl, tPart, tNoPart, rSlH, upd_same, upd_upd, rIntB, rListH, tBM, tBM0, rAppend, rClear, tPar, gTupH, hp, hq]
  exact ⟨cbig pp.2.1 pq.2.2, cbig pp.2.2 pq.2.1, cbig pp.2.2 pq.1, cbig pp.1 pq.2.2, cbig pp.1 pq.2.1, cbig pp.2.1 pq.1, fun r hr => k r _ (same_new hr _) upd_same⟩
theorem ok_side_of (T : Txt K mg ad fd) : FnOk P w K mg base CX0 2 (ad 2) (fd 2) ["line", "P"] sp_side := by
  refine T.side_of.fn.ok sc_side_of (fun vs H Q E h => ?_) (fun cdv A outer s H vs Q E hr h => ?_)
  · obtain ⟨l, p, a, b, c, x, y, w, rfl, _⟩ := h
    rfl
  obtain ⟨l, p, a, b, c, x, y, w, rfl, hl, ⟨la, lb, lc⟩, hp, ⟨lx, ly, lw⟩, k⟩ := h
  have qpss_one := @pss_one
  have qps_ret := @ps_ret
  have qpe_call := @pe_call
  have qpa1 := @pa1
  have qpe_op := @pe_op
  have qpe_ix := @pe_ix
  have qpv := @pv
  have qpe_int := @pe_int
  generalize @L2.PE = QE, @L2.PT = QT, @L2.PW = QW, @L2.PA = QA, @L2.PS = QS, @L2.PSs = QSs, @L2.PG = QG, @L2.PGs = QGs, @L2.PI = QI, @L2.PO = QO, @L2.PIf = QIf at qpss_one qps_ret qpe_call qpa1 qpe_op qpe_ix qpv qpe_int ⊢
  refine ⟨_,
    (qpss_one (qps_ret (qpe_call (ok_sign_of T) (hr.mono (by decide)) rfl T.sign_of.mg T.sign_of.fn.kp T.sign_of.bn .nil pass0 (qpa1 (qpe_op op_add (qpe_op op_add (qpe_op op_mulB (qpe_ix ix_tupH (qpv 0) qpe_int (fun _ _ => rfl)) (qpe_ix ix_tupH (qpv 1) qpe_int (fun _ _ => rfl))) (qpe_op op_mulB (qpe_ix ix_tupH (qpv 0) qpe_int (fun _ _ => rfl)) (qpe_ix ix_tupH (qpv 1) qpe_int (fun _ _ => rfl)))) (qpe_op op_mulB (qpe_ix ix_tupH (qpv 0) qpe_int (fun _ _ => rfl)) (qpe_ix ix_tupH (qpv 1) qpe_int (fun _ _ => rfl)))) ns_BinOp))))
    , ?_⟩
  clear  qpss_one qps_ret qpe_call qpa1 qpe_op qpe_ix qpv qpe_int QE QT QW QA QS QSs QG QGs QI QO QIf
  simp only [sp_sign, tSeq, tNext, tRet, tRetN, tIfS, tAsg, gName, tDrop, tVar, tC, tOp, tUn, rI, rI0, rU, rEq, rNe, tTest, tB, tNot, tAnd, tOr, tAndV, tOrV, tNotV, tIf, tCB, tCall, tNil, tCons, tTup, tLst, gTup, gCons, gNil, L2.start, rIsi, rIxT, rIxL, cx_K, tyN_non, tyN_bl, tyN_int, tyN_str, isi_ii, isi_ib, isi_it, isi_il, isi_bi, isi_bb, isi_tt, isi_ni, isi_si, isi_ti, isi_li, isi_di, isi_ll, scal_ii, scal_bb, sz0, sz1, sz2, sz3, sz4, List.map_cons, List.map_nil, List.length_cons, List.length_nil, List.replicate, List.cons_append, List.nil_append, List.append_nil, List.getElem?_cons_zero, List.getElem?_cons_succ, List.set_cons_zero, List.set_cons_succ, Option.some.injEq, V.int.injEq, V.bl.injEq, V.ref.injEq, V.ty.injEq, List.cons.injEq, and_true, true_and, exists_eq_left, exists_eq_left', exists_and_left, exists_and_right, exists_eq, exists_eq', and_assoc, Nat.reduceAdd, Nat.reduceSub, Bool.not_true, Bool.not_false, Bool.false_eq_true, if_true, if_false, reduceIte, Nat.zero_add, decide_true, decide_false, selC, comp_K, tYes, Option.join_some, rIxTH, rIxLH, rLenH, rIsiF, at0, at1, at2, at3, at4, at5, at6, at7, at8, HO.tup.injEq, HO.lst.injEq, reduceCtorEq, false_or, or_false, tyF_non, tyF_bl, tyF_int, tyF_str, exists_const, Int.reduceAdd, Int.reduceMul, Int.reduceSub, gSub, rSetL, tSl, tPart, tNoPart, rSlH, upd_same, upd_upd, rIntB, rListH, tBM, tBM0, rAppend, rClear, tPar, gTupH, hl, hp]
  exact ⟨cbig la lx, cbig lb ly, cbig lc lw, k⟩
theorem ok_turn (T : Txt K mg ad fd) : FnOk P w K mg base CX0 3 (ad 3) (fd 3) ["P", "Q", "R"] sp_turn := by
  refine T.turn.fn.ok sc_turn (fun vs H Q E h => ?_) (fun cdv A outer s H vs Q E hr h => ?_)
  · obtain ⟨p, q, r, x1, y1, w1, x2, y2, w2, x3, y3, w3, rfl, _⟩ := h
    rfl
  obtain ⟨p, q, r, x1, y1, w1, x2, y2, w2, x3, y3, w3, rfl, hp, hq, hr', k⟩ := h
  have qpss_one := @pss_one
  have qps_ret := @ps_ret
  have qpe_call := @pe_call
  have qpa2 := @pa2
  have qpv := @pv
  generalize @L2.PE = QE, @L2.PT = QT, @L2.PW = QW, @L2.PA = QA, @L2.PS = QS, @L2.PSs = QSs, @L2.PG = QG, @L2.PGs = QGs, @L2.PI = QI, @L2.PO = QO, @L2.PIf = QIf at qpss_one qps_ret qpe_call qpa2 qpv ⊢
  refine ⟨_,
    (qpss_one (qps_ret (qpe_call (ok_side_of T) (hr.mono (by decide)) rfl T.side_of.mg T.side_of.fn.kp T.side_of.bn .nil pass0 (qpa2 (qpe_call (ok_line_of T) (hr.mono (by decide)) rfl T.line_of.mg T.line_of.fn.kp T.line_of.bn .nil pass0 (qpa2 (qpv 0) ns_Name (qpv 1) ns_Name)) ns_Call (qpv 2) ns_Name))))
    , ?_⟩
  clear  qpss_one qps_ret qpe_call qpa2 qpv QE QT QW QA QS QSs QG QGs QI QO QIf
  simp only [sp_line, sp_side, tSeq, tNext, tRet, tRetN, tIfS, tAsg, gName, tDrop, tVar, tC, tOp, tUn, rI, rI0, rU, rEq, rNe, tTest, tB, tNot, tAnd, tOr, tAndV, tOrV, tNotV, tIf, tCB, tCall, tNil, tCons, tTup, tLst, gTup, gCons, gNil, L2.start, rIsi, rIxT, rIxL, cx_K, tyN_non, tyN_bl, tyN_int, tyN_str, isi_ii, isi_ib, isi_it, isi_il, isi_bi, isi_bb, isi_tt, isi_ni, isi_si, isi_ti, isi_li, isi_di, isi_ll, scal_ii, scal_bb, sz0, sz1, sz2, sz3, sz4, List.map_cons, List.map_nil, List.length_cons, List.length_nil, List.replicate, List.cons_append, List.nil_append, List.append_nil, List.getElem?_cons_zero, List.getElem?_cons_succ, List.set_cons_zero, List.set_cons_succ, Option.some.injEq, V.int.injEq, V.bl.injEq, V.ref.injEq, V.ty.injEq, List.cons.injEq, and_true, true_and, exists_eq_left, exists_eq_left', exists_and_left, exists_and_right, exists_eq, exists_eq', and_assoc, Nat.reduceAdd, Nat.reduceSub, Bool.not_true, Bool.not_false, Bool.false_eq_true, if_true, if_false, reduceIte, Nat.zero_add, decide_true, decide_false, selC, comp_K, tYes, Option.join_some, rIxTH, rIxLH, rLenH, rIsiF, at0, at1, at2, at3, at4, at5, at6, at7, at8, HO.tup.injEq, HO.lst.injEq, reduceCtorEq, false_or, or_false, tyF_non, tyF_bl, tyF_int, tyF_str, exists_const, Int.reduceAdd, Int.reduceMul, Int.reduceSub, gSub, rSetL, tSl, tPart, tNoPart, rSlH, upd_same, upd_upd, rIntB, rListH, tBM, tBM0, rAppend, rClear, tPar, gTupH]
  exact ⟨x1, y1, w1, hp, x2, y2, w2, hq, fun l H2 g2 hl => ⟨_, _, _, hl, ln_bd hp.2 hq.2, _, _, _, (hr'.same g2).1, hr'.2, k H2 g2⟩⟩
theorem ok_law_cell_at (T : Txt K mg ad fd) : FnOk P w K mg base CX0 1 (ad 9) (fd 9) ["_law_script", "_law_k"] (sp_cell K) := by
  refine T.law_cell_at.fn.ok sc_law_cell_at (fun vs H Q E h => ?_) (fun cdv A outer s H vs Q E hr h => ?_)
  · obtain ⟨l, ns, k, rfl, _⟩ := h
    rfl
  obtain ⟨l, ns, k, rfl, hl, h0, q⟩ := h
  have qpss2 := @pss2
  have qps_if := @ps_if
  have qpt_cmpR := @pt_cmpR
  have qpv := @pv
  have qpe_callB := @pe_callB
  have qpa1 := @pa1
  have qpss_one := @pss_one
  have qps_ret := @ps_ret
  have qpe_ix := @pe_ix
  have qpss_nil := @pss_nil
  have qpe_int := @pe_int
  generalize @L2.PE = QE, @L2.PT = QT, @L2.PW = QW, @L2.PA = QA, @L2.PS = QS, @L2.PSs = QSs, @L2.PG = QG, @L2.PGs = QGs, @L2.PI = QI, @L2.PO = QO, @L2.PIf = QIf at qpss2 qps_if qpt_cmpR qpv qpe_callB qpa1 qpss_one qps_ret qpe_ix qpss_nil qpe_int ⊢
  refine ⟨_,
    (qpss2
      (qps_if (qpt_cmpR op_lt (qpv 1) (qpe_callB call_len_seq rfl T.b_len bt_len (qpa1 (qpv 0) ns_Name)) (nomark _)) (qpss_one (qps_ret (qpe_ix ix_list (qpv 0) (qpv 1) (fun _ _ => rfl)))) qpss_nil)
      (qps_ret qpe_int))
    , ?_⟩
  clear  qpss2 qps_if qpt_cmpR qpv qpe_callB qpa1 qpss_one qps_ret qpe_ix qpss_nil qpe_int QE QT QW QA QS QSs QG QGs QI QO QIf
  simp only [tSeq, tNext, tRet, tRetN, tIfS, tAsg, gName, tDrop, tVar, tC, tOp, tUn, rI, rI0, rU, rEq, rNe, tTest, tB, tNot, tAnd, tOr, tAndV, tOrV, tNotV, tIf, tCB, tCall, tNil, tCons, tTup, tLst, gTup, gCons, gNil, L2.start, rIsi, rIxT, rIxL, cx_K, tyN_non, tyN_bl, tyN_int, tyN_str, isi_ii, isi_ib, isi_it, isi_il, isi_bi, isi_bb, isi_tt, isi_ni, isi_si, isi_ti, isi_li, isi_di, isi_ll, scal_ii, scal_bb, sz0, sz1, sz2, sz3, sz4, List.map_cons, List.map_nil, List.length_cons, List.length_nil, List.replicate, List.cons_append, List.nil_append, List.append_nil, List.getElem?_cons_zero, List.getElem?_cons_succ, List.set_cons_zero, List.set_cons_succ, Option.some.injEq, V.int.injEq, V.bl.injEq, V.ref.injEq, V.ty.injEq, List.cons.injEq, and_true, true_and, exists_eq_left, exists_eq_left', exists_and_left, exists_and_right, exists_eq, exists_eq', and_assoc, Nat.reduceAdd, Nat.reduceSub, Bool.not_true, Bool.not_false, Bool.false_eq_true, if_true, if_false, reduceIte, Nat.zero_add, decide_true, decide_false]
  refine ⟨_, .inl hl, ?_⟩
  rw [List.length_map]
  refine ite2 (fun c => ?_) (fun c => ?_)
  · have c' : k < (ns.length : Int) := of_decide_eq_true c
    have hk : k.toNat < ns.length := by omega
    refine ⟨_, hl, _, ?_, q⟩
    have ek : k = ((k.toNat : Nat) : Int) := by omega
    have z : atI (ns.map V.int) ((k.toNat : Nat) : Int) = some (.int (ns.getD k.toNat 0)) := atI_nat (by
      rw [List.getElem?_map, List.getElem?_eq_getElem hk, List.getD_eq_getElem?_getD, List.getElem?_eq_getElem hk] <;> rfl)
    rw [← ek] at z
    exact z
  · have c' : ¬ k < (ns.length : Int) := fun z => c (decide_eq_true z)
    have e : ns.getD k.toNat 0 = 0 := by rw [List.getD_eq_getElem?_getD, List.getElem?_eq_none (by omega)]; rfl
    rw [e] at q
    exact q
theorem ok_law_whole (T : Txt K mg ad fd) : FnOk P w K mg base CX0 1 (ad 10) (fd 10) ["_law_found"] sp_whole := by
  refine T.law_whole.fn.ok sc_law_whole (fun vs H Q E h => ?_) (fun cdv A outer s H vs Q E hr h => ?_)
  · obtain ⟨i, rfl, _⟩ := h
    rfl
  obtain ⟨i, rfl, q⟩ := h
  have qpss_one := @pss_one
  have qps_ret := @ps_ret
  have qpe_and := @pe_and
  have qpe_callB := @pe_callB
  have qpa2 := @pa2
  have qpv := @pv
  have qpe_bltn := @pe_bltn
  have qpe_one := @pe_one
  have qpe_not := @pe_not
  generalize @L2.PE = QE, @L2.PT = QT, @L2.PW = QW, @L2.PA = QA, @L2.PS = QS, @L2.PSs = QSs, @L2.PG = QG, @L2.PGs = QGs, @L2.PI = QI, @L2.PO = QO, @L2.PIf = QIf at qpss_one qps_ret qpe_and qpe_callB qpa2 qpv qpe_bltn qpe_one qpe_not ⊢
  refine ⟨_,
    (qpss_one (qps_ret (qpe_and (qpe_callB (isiF call_isi_int) rfl T.b_isinstance bt_isinstance (qpa2 (qpv 0) ns_Name (qpe_bltn (v := .ty "int") rfl T.b_int bt_int rfl) ns_Name)) (qpe_one (qpe_not (qpe_callB (isiF call_isi_bool) rfl T.b_isinstance bt_isinstance (qpa2 (qpv 0) ns_Name (qpe_bltn (v := .ty "bool") rfl T.b_bool bt_bool rfl) ns_Name)))))))
    , ?_⟩
  clear  qpss_one qps_ret qpe_and qpe_callB qpa2 qpv qpe_bltn qpe_one qpe_not QE QT QW QA QS QSs QG QGs QI QO QIf
  simp only [tSeq, tNext, tRet, tRetN, tIfS, tAsg, gName, tDrop, tVar, tC, tOp, tUn, rI, rI0, rU, rEq, rNe, tTest, tB, tNot, tAnd, tOr, tAndV, tOrV, tNotV, tIf, tCB, tCall, tNil, tCons, tTup, tLst, gTup, gCons, gNil, L2.start, rIsi, rIxT, rIxL, cx_K, tyN_non, tyN_bl, tyN_int, tyN_str, isi_ii, isi_ib, isi_it, isi_il, isi_bi, isi_bb, isi_tt, isi_ni, isi_si, isi_ti, isi_li, isi_di, isi_ll, scal_ii, scal_bb, sz0, sz1, sz2, sz3, sz4, List.map_cons, List.map_nil, List.length_cons, List.length_nil, List.replicate, List.cons_append, List.nil_append, List.append_nil, List.getElem?_cons_zero, List.getElem?_cons_succ, List.set_cons_zero, List.set_cons_succ, Option.some.injEq, V.int.injEq, V.bl.injEq, V.ref.injEq, V.ty.injEq, List.cons.injEq, and_true, true_and, exists_eq_left, exists_eq_left', exists_and_left, exists_and_right, exists_eq, exists_eq', and_assoc, Nat.reduceAdd, Nat.reduceSub, Bool.not_true, Bool.not_false, Bool.false_eq_true, if_true, if_false, reduceIte, Nat.zero_add, decide_true, decide_false, selC, comp_K, tYes, Option.join_some, rIxTH, rIxLH, rLenH, rIsiF, at0, at1, at2, at3, at4, at5, at6, at7, at8, HO.tup.injEq, HO.lst.injEq, reduceCtorEq, false_or, or_false, tyF_non, tyF_bl, tyF_int, tyF_str, exists_const, Int.reduceAdd, Int.reduceMul, Int.reduceSub, gSub, rSetL, tSl, tPart, tNoPart, rSlH, upd_same, upd_upd, rIntB, rListH, tBM, tBM0, rAppend, rClear, tPar, gTupH]
  exact q
theorem okr_law_alike (T : Txt K mg ad fd) : ∀ n, FnOk P w K mg base CX0 (n + 1) (ad 21) (fd 21) ["_law_found", "_law_due"] (sp_alike n) := by
  intro n
  induction n with
  | zero => exact ⟨fun vs H Q E h => (sp_alike_zero h).elim, fun A outer s H args us vs Q E hr e0 bt rv h => (sp_alike_zero h).elim⟩
  | succ n ih =>
  refine T.law_alike.fn.ok sc_law_alike (fun vs H Q E h => ?_) (fun cdv A outer s H vs Q E hr h => ?_)
  · obtain ⟨x, y, rfl, _⟩ := h
    rfl
  obtain ⟨x, y, rfl, hal, q⟩ := h
  obtain ⟨tl, htl, hk⟩ : ∃ tl, PSs (cxOf CX0 P w K mg base ["_law_found", "_law_due", "_law_k"] "_law_alike" (defScope s_law_alike) (ad 21) cdv A outer s H E).nox ((defBody s_law_alike).drop 3) tl ∧ ∀ (p q : Addr) (xs ys : List V) (o : Option V), (H p = some (.lst xs) ∨ H p = some (.tup xs)) → (H q = some (.lst ys) ∨ H q = some (.tup ys)) → xs.length = ys.length → ys.length ≤ 1000 → (∀ (j : Nat) (u v : V), xs[j]? = some u → ys[j]? = some v → Al n H u v) →
      tl { nx := fun _ H' => Q .non H', rt := Q } [some (.ref p), some (.ref q), o] H := by
    have qpss3 := @pss3
    have qps_if := @ps_if
    have qpt_cmpR := @pt_cmpR
    have qpe_callB := @pe_callB
    have qpa1 := @pa1
    have qpv := @pv
    have qpss_one := @pss_one
    have qps_ret := @ps_ret
    have qpe_bl := @pe_bl
    have qpss_nil := @pss_nil
    have qps_for := @ps_for
    have qpi_range1 := @pi_range1
    have qpg_name := @pg_name
    have qpt_not := @pt_not
    have qpt_val := @pt_val
    have qpe_call := @pe_call
    have qpa2 := @pa2
    have qpe_ix := @pe_ix
    generalize @L2.PE = QE, @L2.PT = QT, @L2.PW = QW, @L2.PA = QA, @L2.PS = QS, @L2.PSs = QSs, @L2.PG = QG, @L2.PGs = QGs, @L2.PI = QI, @L2.PO = QO, @L2.PIf = QIf at qpss3 qps_if qpt_cmpR qpe_callB qpa1 qpv qpss_one qps_ret qpe_bl qpss_nil qps_for qpi_range1 qpg_name qpt_not qpt_val qpe_call qpa2 qpe_ix ⊢
    refine ⟨_,
    (qpss3
      (qps_if (qpt_cmpR op_ne (qpe_callB call_lenH rfl T.b_len bt_len (qpa1 (qpv 0) ns_Name)) (qpe_callB call_lenH rfl T.b_len bt_len (qpa1 (qpv 1) ns_Name)) (nomark _)) (qpss_one (qps_ret qpe_bl)) qpss_nil)
      (qps_for PassesOwn.never rfl (qpi_range1 rfl T.b_range (qpa1 (qpe_callB call_lenH rfl T.b_len bt_len (qpa1 (qpv 1) ns_Name)) ns_Call)) (qpg_name (i := 2) sc_law_alike.nd rfl (Or.inl rfl)) (qpss_one (qps_if (qpt_not (qpt_val (qpe_call ih (hr.mono (by omega)) rfl T.law_alike.mg T.law_alike.fn.kp T.law_alike.bn .nil pass0 (qpa2 (qpe_ix ix_any (qpv 0) (qpv 2) (fun _ _ => rfl)) ns_Subscript (qpe_ix ix_any (qpv 1) (qpv 2) (fun _ _ => rfl)) ns_Subscript)))) (qpss_one (qps_ret qpe_bl)) qpss_nil)))
      (qps_ret qpe_bl))
      , fun p q' xs ys o hp hq hlen hz hit => ?_⟩
    clear  qpss3 qps_if qpt_cmpR qpe_callB qpa1 qpv qpss_one qps_ret qpe_bl qpss_nil qps_for qpi_range1 qpg_name qpt_not qpt_val qpe_call qpa2 qpe_ix QE QT QW QA QS QSs QG QGs QI QO QIf
    simp only [tSeq, tNext, tRet, tRetN, tIfS, tAsg, gName, tDrop, tVar, tC, tOp, tUn, rI, rI0, rU, rEq, rNe, tTest, tB, tNot, tAnd, tOr, tAndV, tOrV, tNotV, tIf, tCB, tCall, tNil, tCons, tTup, tLst, gTup, gCons, gNil, L2.start, rIsi, rIxT, rIxL, cx_K, tyN_non, tyN_bl, tyN_int, tyN_str, isi_ii, isi_ib, isi_it, isi_il, isi_bi, isi_bb, isi_tt, isi_ni, isi_si, isi_ti, isi_li, isi_di, isi_ll, scal_ii, scal_bb, sz0, sz1, sz2, sz3, sz4, List.map_cons, List.map_nil, List.length_cons, List.length_nil, List.replicate, List.cons_append, List.nil_append, List.append_nil, List.getElem?_cons_zero, List.getElem?_cons_succ, List.set_cons_zero, List.set_cons_succ, Option.some.injEq, V.int.injEq, V.bl.injEq, V.ref.injEq, V.ty.injEq, List.cons.injEq, and_true, true_and, exists_eq_left, exists_eq_left', exists_and_left, exists_and_right, exists_eq, exists_eq', and_assoc, Nat.reduceAdd, Nat.reduceSub, Bool.not_true, Bool.not_false, Bool.false_eq_true, if_true, if_false, reduceIte, Nat.zero_add, decide_true, decide_false, selC, comp_K, tYes, Option.join_some, rIxTH, rIxLH, rLenH, rIsiF, at0, at1, at2, at3, at4, at5, at6, at7, at8, HO.tup.injEq, HO.lst.injEq, reduceCtorEq, false_or, or_false, tyF_non, tyF_bl, tyF_int, tyF_str, exists_const, Int.reduceAdd, Int.reduceMul, Int.reduceSub, gSub, rSetL, tSl, tPart, tNoPart, rSlH, upd_same, upd_upd, rIntB, rListH, tBM, tBM0, rAppend, rClear, tPar, gTupH]
    refine ⟨xs, hp, ys, hq, ite2 (fun c => absurd c (by rw [hlen]; simp)) (fun _ => ?_)⟩
    refine tFor_mk ?_
    simp only [iRng1, tSeq, tNext, tRet, tRetN, tIfS, tAsg, gName, tDrop, tVar, tC, tOp, tUn, rI, rI0, rU, rEq, rNe, tTest, tB, tNot, tAnd, tOr, tAndV, tOrV, tNotV, tIf, tCB, tCall, tNil, tCons, tTup, tLst, gTup, gCons, gNil, L2.start, rIsi, rIxT, rIxL, cx_K, tyN_non, tyN_bl, tyN_int, tyN_str, isi_ii, isi_ib, isi_it, isi_il, isi_bi, isi_bb, isi_tt, isi_ni, isi_si, isi_ti, isi_li, isi_di, isi_ll, scal_ii, scal_bb, sz0, sz1, sz2, sz3, sz4, List.map_cons, List.map_nil, List.length_cons, List.length_nil, List.replicate, List.cons_append, List.nil_append, List.append_nil, List.getElem?_cons_zero, List.getElem?_cons_succ, List.set_cons_zero, List.set_cons_succ, Option.some.injEq, V.int.injEq, V.bl.injEq, V.ref.injEq, V.ty.injEq, List.cons.injEq, and_true, true_and, exists_eq_left, exists_eq_left', exists_and_left, exists_and_right, exists_eq, exists_eq', and_assoc, Nat.reduceAdd, Nat.reduceSub, Bool.not_true, Bool.not_false, Bool.false_eq_true, if_true, if_false, reduceIte, Nat.zero_add, decide_true, decide_false, selC, comp_K, tYes, Option.join_some, rIxTH, rIxLH, rLenH, rIsiF, at0, at1, at2, at3, at4, at5, at6, at7, at8, HO.tup.injEq, HO.lst.injEq, reduceCtorEq, false_or, or_false, tyF_non, tyF_bl, tyF_int, tyF_str, exists_const, Int.reduceAdd, Int.reduceMul, Int.reduceSub, gSub, rSetL, tSl, tPart, tNoPart, rSlH, upd_same, upd_upd, rIntB, rListH, tBM, tBM0, rAppend, rClear, tPar, gTupH]
    refine ⟨ys, hq, by omega, by omega, for_range (n := ((ys.length : Int)).toNat) (fun _ σ H' => H' = H ∧ ∃ o, σ = [some (.ref p), some (.ref q'), o]) ⟨rfl, o, rfl⟩ ?_ ?_⟩
    · rintro j σ H' hj ⟨rfl, o, rfl⟩
      have hj' : j < ys.length := by omega
      have hjx : j < xs.length := by omega
      have ex : xs[j]? = some xs[j] := List.getElem?_eq_getElem hjx
      have ey : ys[j]? = some ys[j] := List.getElem?_eq_getElem hj'
      simp only [tSeq, tNext, tRet, tRetN, tIfS, tAsg, gName, tDrop, tVar, tC, tOp, tUn, rI, rI0, rU, rEq, rNe, tTest, tB, tNot, tAnd, tOr, tAndV, tOrV, tNotV, tIf, tCB, tCall, tNil, tCons, tTup, tLst, gTup, gCons, gNil, L2.start, rIsi, rIxT, rIxL, cx_K, tyN_non, tyN_bl, tyN_int, tyN_str, isi_ii, isi_ib, isi_it, isi_il, isi_bi, isi_bb, isi_tt, isi_ni, isi_si, isi_ti, isi_li, isi_di, isi_ll, scal_ii, scal_bb, sz0, sz1, sz2, sz3, sz4, List.map_cons, List.map_nil, List.length_cons, List.length_nil, List.replicate, List.cons_append, List.nil_append, List.append_nil, List.getElem?_cons_zero, List.getElem?_cons_succ, List.set_cons_zero, List.set_cons_succ, Option.some.injEq, V.int.injEq, V.bl.injEq, V.ref.injEq, V.ty.injEq, List.cons.injEq, and_true, true_and, exists_eq_left, exists_eq_left', exists_and_left, exists_and_right, exists_eq, exists_eq', and_assoc, Nat.reduceAdd, Nat.reduceSub, Bool.not_true, Bool.not_false, Bool.false_eq_true, if_true, if_false, reduceIte, Nat.zero_add, decide_true, decide_false, selC, comp_K, tYes, Option.join_some, rIxTH, rIxLH, rLenH, rIsiF, at0, at1, at2, at3, at4, at5, at6, at7, at8, HO.tup.injEq, HO.lst.injEq, reduceCtorEq, false_or, or_false, tyF_non, tyF_bl, tyF_int, tyF_str, exists_const, Int.reduceAdd, Int.reduceMul, Int.reduceSub, gSub, rSetL, tSl, tPart, tNoPart, rSlH, upd_same, upd_upd, rIntB, rListH, tBM, tBM0, rAppend, rClear, tPar, gTupH, Int.zero_add]
      exact ⟨p, xs, _, _, rfl, rfl, hp, atI_nat ex, q', ys, _, _, rfl, rfl, hq, atI_nat ey, _, _, rfl, hit j _ _ ex ey, _, rfl, iteF rfl⟩
    · rintro σ H' ⟨rfl, o, rfl⟩
      simp only [tSeq, tNext, tRet, tRetN, tIfS, tAsg, gName, tDrop, tVar, tC, tOp, tUn, rI, rI0, rU, rEq, rNe, tTest, tB, tNot, tAnd, tOr, tAndV, tOrV, tNotV, tIf, tCB, tCall, tNil, tCons, tTup, tLst, gTup, gCons, gNil, L2.start, rIsi, rIxT, rIxL, cx_K, tyN_non, tyN_bl, tyN_int, tyN_str, isi_ii, isi_ib, isi_it, isi_il, isi_bi, isi_bb, isi_tt, isi_ni, isi_si, isi_ti, isi_li, isi_di, isi_ll, scal_ii, scal_bb, sz0, sz1, sz2, sz3, sz4, List.map_cons, List.map_nil, List.length_cons, List.length_nil, List.replicate, List.cons_append, List.nil_append, List.append_nil, List.getElem?_cons_zero, List.getElem?_cons_succ, List.set_cons_zero, List.set_cons_succ, Option.some.injEq, V.int.injEq, V.bl.injEq, V.ref.injEq, V.ty.injEq, List.cons.injEq, and_true, true_and, exists_eq_left, exists_eq_left', exists_and_left, exists_and_right, exists_eq, exists_eq', and_assoc, Nat.reduceAdd, Nat.reduceSub, Bool.not_true, Bool.not_false, Bool.false_eq_true, if_true, if_false, reduceIte, Nat.zero_add, decide_true, decide_false, selC, comp_K, tYes, Option.join_some, rIxTH, rIxLH, rLenH, rIsiF, at0, at1, at2, at3, at4, at5, at6, at7, at8, HO.tup.injEq, HO.lst.injEq, reduceCtorEq, false_or, or_false, tyF_non, tyF_bl, tyF_int, tyF_str, exists_const, Int.reduceAdd, Int.reduceMul, Int.reduceSub, gSub, rSetL, tSl, tPart, tNoPart, rSlH, upd_same, upd_upd, rIntB, rListH, tBM, tBM0, rAppend, rClear, tPar, gTupH]
      exact q
  have qpss_cons := @pss_cons
  have qps_if := @ps_if
  have qpt_val := @pt_val
  have qpe_callB := @pe_callB
  have qpa2 := @pa2
  have qpv := @pv
  have qpe_bltn := @pe_bltn
  have qpss_one := @pss_one
  have qps_ret := @ps_ret
  have qpe_and := @pe_and
  have qpe_one := @pe_one
  have qpe_cmpR := @pe_cmpR
  have qpss_nil := @pss_nil
  have qpe_call := @pe_call
  have qpa1 := @pa1
  have qpt_not := @pt_not
  have qpe_bl := @pe_bl
  generalize @L2.PE = QE, @L2.PT = QT, @L2.PW = QW, @L2.PA = QA, @L2.PS = QS, @L2.PSs = QSs, @L2.PG = QG, @L2.PGs = QGs, @L2.PI = QI, @L2.PO = QO, @L2.PIf = QIf at qpss_cons qps_if qpt_val qpe_callB qpa2 qpv qpe_bltn qpss_one qps_ret qpe_and qpe_one qpe_cmpR qpss_nil qpe_call qpa1 qpt_not qpe_bl htl ⊢
  refine ⟨_,
    (qpss_cons (qps_if (qpt_val (qpe_callB (isiF call_isi_bool) rfl T.b_isinstance bt_isinstance (qpa2 (qpv 1) ns_Name (qpe_bltn (v := .ty "bool") rfl T.b_bool bt_bool rfl) ns_Name))) (qpss_one (qps_ret (qpe_and (qpe_callB (isiF call_isi_bool) rfl T.b_isinstance bt_isinstance (qpa2 (qpv 0) ns_Name (qpe_bltn (v := .ty "bool") rfl T.b_bool bt_bool rfl) ns_Name)) (qpe_one (qpe_cmpR op_eq (qpv 0) (qpv 1) (nomark _)))))) qpss_nil)
      (qpss_cons (qps_if (qpt_val (qpe_callB (isiF call_isi_int) rfl T.b_isinstance bt_isinstance (qpa2 (qpv 1) ns_Name (qpe_bltn (v := .ty "int") rfl T.b_int bt_int rfl) ns_Name))) (qpss_one (qps_ret (qpe_and (qpe_call (ok_law_whole T) (hr.mono (by omega)) rfl T.law_whole.mg T.law_whole.fn.kp T.law_whole.bn .nil pass0 (qpa1 (qpv 0) ns_Name)) (qpe_one (qpe_cmpR op_eq (qpv 0) (qpv 1) (nomark _)))))) qpss_nil)
      (qpss_cons (qps_if (qpt_val (qpe_callB (isiF call_isi_tuple) rfl T.b_isinstance bt_isinstance (qpa2 (qpv 1) ns_Name (qpe_bltn (v := .ty "tuple") rfl T.b_tuple bt_tuple rfl) ns_Name))) (qpss_one (qps_if (qpt_not (qpt_val (qpe_callB (isiF call_isi_tuple) rfl T.b_isinstance bt_isinstance (qpa2 (qpv 0) ns_Name (qpe_bltn (v := .ty "tuple") rfl T.b_tuple bt_tuple rfl) ns_Name)))) (qpss_one (qps_ret qpe_bl)) qpss_nil)) (qpss_one (qps_if (qpt_not (qpt_val (qpe_callB (isiF call_isi_list) rfl T.b_isinstance bt_isinstance (qpa2 (qpv 0) ns_Name (qpe_bltn (v := .ty "list") rfl T.b_list bt_list rfl) ns_Name)))) (qpss_one (qps_ret qpe_bl)) qpss_nil)))
      htl)))
    , ?_⟩
  clear htl qpss_cons qps_if qpt_val qpe_callB qpa2 qpv qpe_bltn qpss_one qps_ret qpe_and qpe_one qpe_cmpR qpss_nil qpe_call qpa1 qpt_not qpe_bl QE QT QW QA QS QSs QG QGs QI QO QIf
  rcases hal with ⟨i, rfl, rfl⟩ | ⟨p, q', xs, ys, rfl, rfl, ht, hlen, hz, hit⟩
  · simp only [sp_whole, tSeq, tNext, tRet, tRetN, tIfS, tAsg, gName, tDrop, tVar, tC, tOp, tUn, rI, rI0, rU, rEq, rNe, tTest, tB, tNot, tAnd, tOr, tAndV, tOrV, tNotV, tIf, tCB, tCall, tNil, tCons, tTup, tLst, gTup, gCons, gNil, L2.start, rIsi, rIxT, rIxL, cx_K, tyN_non, tyN_bl, tyN_int, tyN_str, isi_ii, isi_ib, isi_it, isi_il, isi_bi, isi_bb, isi_tt, isi_ni, isi_si, isi_ti, isi_li, isi_di, isi_ll, scal_ii, scal_bb, sz0, sz1, sz2, sz3, sz4, List.map_cons, List.map_nil, List.length_cons, List.length_nil, List.replicate, List.cons_append, List.nil_append, List.append_nil, List.getElem?_cons_zero, List.getElem?_cons_succ, List.set_cons_zero, List.set_cons_succ, Option.some.injEq, V.int.injEq, V.bl.injEq, V.ref.injEq, V.ty.injEq, List.cons.injEq, and_true, true_and, exists_eq_left, exists_eq_left', exists_and_left, exists_and_right, exists_eq, exists_eq', and_assoc, Nat.reduceAdd, Nat.reduceSub, Bool.not_true, Bool.not_false, Bool.false_eq_true, if_true, if_false, reduceIte, Nat.zero_add, decide_true, decide_false, selC, comp_K, tYes, Option.join_some, rIxTH, rIxLH, rLenH, rIsiF, at0, at1, at2, at3, at4, at5, at6, at7, at8, HO.tup.injEq, HO.lst.injEq, reduceCtorEq, false_or, or_false, tyF_non, tyF_bl, tyF_int, tyF_str, exists_const, Int.reduceAdd, Int.reduceMul, Int.reduceSub, gSub, rSetL, tSl, tPart, tNoPart, rSlH, upd_same, upd_upd, rIntB, rListH, tBM, tBM0, rAppend, rClear, tPar, gTupH]
    exact q
  · rcases ht with ⟨hp, hq⟩ | ⟨hp, hq⟩
    · simp only [tSeq, tNext, tRet, tRetN, tIfS, tAsg, gName, tDrop, tVar, tC, tOp, tUn, rI, rI0, rU, rEq, rNe, tTest, tB, tNot, tAnd, tOr, tAndV, tOrV, tNotV, tIf, tCB, tCall, tNil, tCons, tTup, tLst, gTup, gCons, gNil, L2.start, rIsi, rIxT, rIxL, cx_K, tyN_non, tyN_bl, tyN_int, tyN_str, isi_ii, isi_ib, isi_it, isi_il, isi_bi, isi_bb, isi_tt, isi_ni, isi_si, isi_ti, isi_li, isi_di, isi_ll, scal_ii, scal_bb, sz0, sz1, sz2, sz3, sz4, List.map_cons, List.map_nil, List.length_cons, List.length_nil, List.replicate, List.cons_append, List.nil_append, List.append_nil, List.getElem?_cons_zero, List.getElem?_cons_succ, List.set_cons_zero, List.set_cons_succ, Option.some.injEq, V.int.injEq, V.bl.injEq, V.ref.injEq, V.ty.injEq, List.cons.injEq, and_true, true_and, exists_eq_left, exists_eq_left', exists_and_left, exists_and_right, exists_eq, exists_eq', and_assoc, Nat.reduceAdd, Nat.reduceSub, Bool.not_true, Bool.not_false, Bool.false_eq_true, if_true, if_false, reduceIte, Nat.zero_add, decide_true, decide_false, selC, comp_K, tYes, Option.join_some, rIxTH, rIxLH, rLenH, rIsiF, at0, at1, at2, at3, at4, at5, at6, at7, at8, HO.tup.injEq, HO.lst.injEq, reduceCtorEq, false_or, or_false, tyF_non, tyF_bl, tyF_int, tyF_str, exists_const, Int.reduceAdd, Int.reduceMul, Int.reduceSub, gSub, rSetL, tSl, tPart, tNoPart, rSlH, upd_same, upd_upd, rIntB, rListH, tBM, tBM0, rAppend, rClear, tPar, gTupH, tyF_tup hp, tyF_tup hq, isi_tb, isi_ti, isi_tt]
      exact hk p q' xs ys none (.inr hp) (.inr hq) hlen hz hit
    · simp only [tSeq, tNext, tRet, tRetN, tIfS, tAsg, gName, tDrop, tVar, tC, tOp, tUn, rI, rI0, rU, rEq, rNe, tTest, tB, tNot, tAnd, tOr, tAndV, tOrV, tNotV, tIf, tCB, tCall, tNil, tCons, tTup, tLst, gTup, gCons, gNil, L2.start, rIsi, rIxT, rIxL, cx_K, tyN_non, tyN_bl, tyN_int, tyN_str, isi_ii, isi_ib, isi_it, isi_il, isi_bi, isi_bb, isi_tt, isi_ni, isi_si, isi_ti, isi_li, isi_di, isi_ll, scal_ii, scal_bb, sz0, sz1, sz2, sz3, sz4, List.map_cons, List.map_nil, List.length_cons, List.length_nil, List.replicate, List.cons_append, List.nil_append, List.append_nil, List.getElem?_cons_zero, List.getElem?_cons_succ, List.set_cons_zero, List.set_cons_succ, Option.some.injEq, V.int.injEq, V.bl.injEq, V.ref.injEq, V.ty.injEq, List.cons.injEq, and_true, true_and, exists_eq_left, exists_eq_left', exists_and_left, exists_and_right, exists_eq, exists_eq', and_assoc, Nat.reduceAdd, Nat.reduceSub, Bool.not_true, Bool.not_false, Bool.false_eq_true, if_true, if_false, reduceIte, Nat.zero_add, decide_true, decide_false, selC, comp_K, tYes, Option.join_some, rIxTH, rIxLH, rLenH, rIsiF, at0, at1, at2, at3, at4, at5, at6, at7, at8, HO.tup.injEq, HO.lst.injEq, reduceCtorEq, false_or, or_false, tyF_non, tyF_bl, tyF_int, tyF_str, exists_const, Int.reduceAdd, Int.reduceMul, Int.reduceSub, gSub, rSetL, tSl, tPart, tNoPart, rSlH, upd_same, upd_upd, rIntB, rListH, tBM, tBM0, rAppend, rClear, tPar, gTupH, tyF_lst hp, tyF_lst hq, isi_lb, isi_li, isi_lt, isi_ll]
      exact hk p q' xs ys none (.inl hp) (.inl hq) hlen hz hit
theorem ok_law_alike (T : Txt K mg ad fd) : FnOk P w K mg base CX0 5 (ad 21) (fd 21) ["_law_found", "_law_due"] (sp_alike 4) := okr_law_alike T 4
theorem ok_law_held (T : Txt K mg ad fd) : FnOk P w K mg base CX0 1 (ad 11) (fd 11) ["_law_cell"] sp_held := by
  refine T.law_held.fn.ok sc_law_held (fun vs H Q E h => ?_) (fun cdv A outer s H vs Q E hr h => ?_)
  · obtain ⟨c, rfl, _⟩ := h
    rfl
  obtain ⟨c, rfl, k⟩ := h
  have qpss3 := @pss3
  have qps_set := @ps_set
  have qpe_lst := @pe_lst
  have qpa_nil := @pa_nil
  have qps_for := @ps_for
  have qpi_range1 := @pi_range1
  have qpa1 := @pa1
  have qpe_int := @pe_int
  have qpg_name := @pg_name
  have qpss2 := @pss2
  have qps_expr := @ps_expr
  have qpe_bm := @pe_bm
  have qpv := @pv
  have qpe_cmpR := @pe_cmpR
  have qpe_op := @pe_op
  have qps_ret := @ps_ret
  generalize @L2.PE = QE, @L2.PT = QT, @L2.PW = QW, @L2.PA = QA, @L2.PS = QS, @L2.PSs = QSs, @L2.PG = QG, @L2.PGs = QGs, @L2.PI = QI, @L2.PO = QO, @L2.PIf = QIf at qpss3 qps_set qpe_lst qpa_nil qps_for qpi_range1 qpa1 qpe_int qpg_name qpss2 qps_expr qpe_bm qpv qpe_cmpR qpe_op qps_ret ⊢
  refine ⟨_,
    (qpss3
      (qps_set (i := 1) sc_law_held.nd rfl (Or.inl rfl) (qpe_lst qpa_nil))
      (qps_for PassesOwn.never rfl (qpi_range1 rfl T.b_range (qpa1 qpe_int ns_Constant)) (qpg_name (i := 2) sc_law_held.nd rfl (Or.inl rfl)) (qpss2
      (qps_expr (qpe_bm PySem.F.plainAttrs_list PySem.F.slot_list_append PySem.F.type_list_append mt_append (qpv 1) (qpa1 (qpe_cmpR op_eq (qpe_op op_mod (qpv 0) qpe_int) qpe_int (nomark _)) ns_Compare)))
      (qps_set (i := 0) sc_law_held.nd rfl (Or.inl rfl) (qpe_op op_fdiv (qpv 0) qpe_int))))
      (qps_ret (qpv 1)))
    , ?_⟩
  clear  qpss3 qps_set qpe_lst qpa_nil qps_for qpi_range1 qpa1 qpe_int qpg_name qpss2 qps_expr qpe_bm qpv qpe_cmpR qpe_op qps_ret QE QT QW QA QS QSs QG QGs QI QO QIf
  simp only [tSeq, tNext, tRet, tRetN, tIfS, tAsg, gName, tDrop, tVar, tC, tOp, tUn, rI, rI0, rU, rEq, rNe, tTest, tB, tNot, tAnd, tOr, tAndV, tOrV, tNotV, tIf, tCB, tCall, tNil, tCons, tTup, tLst, gTup, gCons, gNil, L2.start, rIsi, rIxT, rIxL, cx_K, tyN_non, tyN_bl, tyN_int, tyN_str, isi_ii, isi_ib, isi_it, isi_il, isi_bi, isi_bb, isi_tt, isi_ni, isi_si, isi_ti, isi_li, isi_di, isi_ll, scal_ii, scal_bb, sz0, sz1, sz2, sz3, sz4, List.map_cons, List.map_nil, List.length_cons, List.length_nil, List.replicate, List.cons_append, List.nil_append, List.append_nil, List.getElem?_cons_zero, List.getElem?_cons_succ, List.set_cons_zero, List.set_cons_succ, Option.some.injEq, V.int.injEq, V.bl.injEq, V.ref.injEq, V.ty.injEq, List.cons.injEq, and_true, true_and, exists_eq_left, exists_eq_left', exists_and_left, exists_and_right, exists_eq, exists_eq', and_assoc, Nat.reduceAdd, Nat.reduceSub, Bool.not_true, Bool.not_false, Bool.false_eq_true, if_true, if_false, reduceIte, Nat.zero_add, decide_true, decide_false, selC, comp_K, tYes, Option.join_some, rIxTH, rIxLH, rLenH, rIsiF, at0, at1, at2, at3, at4, at5, at6, at7, at8, HO.tup.injEq, HO.lst.injEq, reduceCtorEq, false_or, or_false, tyF_non, tyF_bl, tyF_int, tyF_str, exists_const, Int.reduceAdd, Int.reduceMul, Int.reduceSub, gSub, rSetL, tSl, tPart, tNoPart, rSlH, upd_same, upd_upd, rIntB, rListH, tBM, tBM0, rAppend, rClear, tPar, gTupH]
  intro D hD
  have gD := same_new hD (HO.lst [])
  refine tFor_mk ?_
  simp only [iRng1, tSeq, tNext, tRet, tRetN, tIfS, tAsg, gName, tDrop, tVar, tC, tOp, tUn, rI, rI0, rU, rEq, rNe, tTest, tB, tNot, tAnd, tOr, tAndV, tOrV, tNotV, tIf, tCB, tCall, tNil, tCons, tTup, tLst, gTup, gCons, gNil, L2.start, rIsi, rIxT, rIxL, cx_K, tyN_non, tyN_bl, tyN_int, tyN_str, isi_ii, isi_ib, isi_it, isi_il, isi_bi, isi_bb, isi_tt, isi_ni, isi_si, isi_ti, isi_li, isi_di, isi_ll, scal_ii, scal_bb, sz0, sz1, sz2, sz3, sz4, List.map_cons, List.map_nil, List.length_cons, List.length_nil, List.replicate, List.cons_append, List.nil_append, List.append_nil, List.getElem?_cons_zero, List.getElem?_cons_succ, List.set_cons_zero, List.set_cons_succ, Option.some.injEq, V.int.injEq, V.bl.injEq, V.ref.injEq, V.ty.injEq, List.cons.injEq, and_true, true_and, exists_eq_left, exists_eq_left', exists_and_left, exists_and_right, exists_eq, exists_eq', and_assoc, Nat.reduceAdd, Nat.reduceSub, Bool.not_true, Bool.not_false, Bool.false_eq_true, if_true, if_false, reduceIte, Nat.zero_add, decide_true, decide_false, selC, comp_K, tYes, Option.join_some, rIxTH, rIxLH, rLenH, rIsiF, at0, at1, at2, at3, at4, at5, at6, at7, at8, HO.tup.injEq, HO.lst.injEq, reduceCtorEq, false_or, or_false, tyF_non, tyF_bl, tyF_int, tyF_str, exists_const, Int.reduceAdd, Int.reduceMul, Int.reduceSub, gSub, rSetL, tSl, tPart, tNoPart, rSlH, upd_same, upd_upd, rIntB, rListH, tBM, tBM0, rAppend, rClear, tPar, gTupH]
  refine ⟨by decide, by decide, for_range (fun i σ H' => Same H H' ∧ ∃ (bs : List Bool) (c : Int) (o : Option V), σ = [some (.int c), some (.ref D), o] ∧ H' D = some (.lst (bs.map V.bl)) ∧ bs.length = i) ⟨gD, [], c, none, rfl, upd_same, rfl⟩ ?_ ?_⟩
  · rintro i σ H2 hi ⟨g2, bs, c, o, rfl, hD2, hn⟩
    have hi : i < 16 := hi
    simp only [tSeq, tNext, tRet, tRetN, tIfS, tAsg, gName, tDrop, tVar, tC, tOp, tUn, rI, rI0, rU, rEq, rNe, tTest, tB, tNot, tAnd, tOr, tAndV, tOrV, tNotV, tIf, tCB, tCall, tNil, tCons, tTup, tLst, gTup, gCons, gNil, L2.start, rIsi, rIxT, rIxL, cx_K, tyN_non, tyN_bl, tyN_int, tyN_str, isi_ii, isi_ib, isi_it, isi_il, isi_bi, isi_bb, isi_tt, isi_ni, isi_si, isi_ti, isi_li, isi_di, isi_ll, scal_ii, scal_bb, sz0, sz1, sz2, sz3, sz4, List.map_cons, List.map_nil, List.length_cons, List.length_nil, List.replicate, List.cons_append, List.nil_append, List.append_nil, List.getElem?_cons_zero, List.getElem?_cons_succ, List.set_cons_zero, List.set_cons_succ, Option.some.injEq, V.int.injEq, V.bl.injEq, V.ref.injEq, V.ty.injEq, List.cons.injEq, and_true, true_and, exists_eq_left, exists_eq_left', exists_and_left, exists_and_right, exists_eq, exists_eq', and_assoc, Nat.reduceAdd, Nat.reduceSub, Bool.not_true, Bool.not_false, Bool.false_eq_true, if_true, if_false, reduceIte, Nat.zero_add, decide_true, decide_false, selC, comp_K, tYes, Option.join_some, rIxTH, rIxLH, rLenH, rIsiF, at0, at1, at2, at3, at4, at5, at6, at7, at8, HO.tup.injEq, HO.lst.injEq, reduceCtorEq, false_or, or_false, tyF_non, tyF_bl, tyF_int, tyF_str, exists_const, Int.reduceAdd, Int.reduceMul, Int.reduceSub, gSub, rSetL, tSl, tPart, tNoPart, rSlH, upd_same, upd_upd, rIntB, rListH, tBM, tBM0, rAppend, rClear, tPar, gTupH, hD2, List.length_map]
    refine ⟨tyV_of hD2, by decide, Nat.lt_of_le_of_lt (show bs.length ≤ 16 by omega) (by decide), ⟨by decide, by decide⟩, same_put g2 hD, bs ++ [decide (c % 2 = 1)], by rw [List.map_append]; rfl, by rw [List.length_append, hn]; rfl⟩
  · rintro σ H2 ⟨g2, bs, c, o, rfl, hD2, hn⟩
    simp only [tSeq, tNext, tRet, tRetN, tIfS, tAsg, gName, tDrop, tVar, tC, tOp, tUn, rI, rI0, rU, rEq, rNe, tTest, tB, tNot, tAnd, tOr, tAndV, tOrV, tNotV, tIf, tCB, tCall, tNil, tCons, tTup, tLst, gTup, gCons, gNil, L2.start, rIsi, rIxT, rIxL, cx_K, tyN_non, tyN_bl, tyN_int, tyN_str, isi_ii, isi_ib, isi_it, isi_il, isi_bi, isi_bb, isi_tt, isi_ni, isi_si, isi_ti, isi_li, isi_di, isi_ll, scal_ii, scal_bb, sz0, sz1, sz2, sz3, sz4, List.map_cons, List.map_nil, List.length_cons, List.length_nil, List.replicate, List.cons_append, List.nil_append, List.append_nil, List.getElem?_cons_zero, List.getElem?_cons_succ, List.set_cons_zero, List.set_cons_succ, Option.some.injEq, V.int.injEq, V.bl.injEq, V.ref.injEq, V.ty.injEq, List.cons.injEq, and_true, true_and, exists_eq_left, exists_eq_left', exists_and_left, exists_and_right, exists_eq, exists_eq', and_assoc, Nat.reduceAdd, Nat.reduceSub, Bool.not_true, Bool.not_false, Bool.false_eq_true, if_true, if_false, reduceIte, Nat.zero_add, decide_true, decide_false, selC, comp_K, tYes, Option.join_some, rIxTH, rIxLH, rLenH, rIsiF, at0, at1, at2, at3, at4, at5, at6, at7, at8, HO.tup.injEq, HO.lst.injEq, reduceCtorEq, false_or, or_false, tyF_non, tyF_bl, tyF_int, tyF_str, exists_const, Int.reduceAdd, Int.reduceMul, Int.reduceSub, gSub, rSetL, tSl, tPart, tNoPart, rSlH, upd_same, upd_upd, rIntB, rListH, tBM, tBM0, rAppend, rClear, tPar, gTupH]
    exact k D bs H2 g2 ⟨hD2, hn⟩
theorem ok_law_in (T : Txt K mg ad fd) : FnOk P w K mg base CX0 1 (ad 12) (fd 12) ["_law_held_here", "_law_x", "_law_y"] sp_in := by
  refine T.law_in.fn.ok sc_law_in (fun vs H Q E h => ?_) (fun cdv A outer s H vs Q E hr h => ?_)
  · obtain ⟨l, bs, x, y, rfl, _⟩ := h
    rfl
  obtain ⟨l, bs, x, y, rfl, ⟨hl, hn⟩, k⟩ := h
  have qpss_one := @pss_one
  have qps_ret := @ps_ret
  have qpe_and := @pe_and
  have qpe_chain := @pe_chain
  have qpe_int := @pe_int
  have qpv := @pv
  have qpe_one := @pe_one
  have qpe_ix := @pe_ix
  have qpe_op := @pe_op
  generalize @L2.PE = QE, @L2.PT = QT, @L2.PW = QW, @L2.PA = QA, @L2.PS = QS, @L2.PSs = QSs, @L2.PG = QG, @L2.PGs = QGs, @L2.PI = QI, @L2.PO = QO, @L2.PIf = QIf at qpss_one qps_ret qpe_and qpe_chain qpe_int qpv qpe_one qpe_ix qpe_op ⊢
  refine ⟨_,
    (qpss_one (qps_ret (qpe_and (qpe_chain op_le op_lt qpe_int (qpv 1) qpe_int) (qpe_and (qpe_chain op_le op_lt qpe_int (qpv 2) qpe_int) (qpe_one (qpe_ix ix_listH (qpv 0) (qpe_op op_add (qpe_op op_mul qpe_int (qpv 2)) (qpv 1)) (fun _ _ => rfl)))))))
    , ?_⟩
  clear  qpss_one qps_ret qpe_and qpe_chain qpe_int qpv qpe_one qpe_ix qpe_op QE QT QW QA QS QSs QG QGs QI QO QIf
  simp only [tChain, tSeq, tNext, tRet, tRetN, tIfS, tAsg, gName, tDrop, tVar, tC, tOp, tUn, rI, rI0, rU, rEq, rNe, tTest, tB, tNot, tAnd, tOr, tAndV, tOrV, tNotV, tIf, tCB, tCall, tNil, tCons, tTup, tLst, gTup, gCons, gNil, L2.start, rIsi, rIxT, rIxL, cx_K, tyN_non, tyN_bl, tyN_int, tyN_str, isi_ii, isi_ib, isi_it, isi_il, isi_bi, isi_bb, isi_tt, isi_ni, isi_si, isi_ti, isi_li, isi_di, isi_ll, scal_ii, scal_bb, sz0, sz1, sz2, sz3, sz4, List.map_cons, List.map_nil, List.length_cons, List.length_nil, List.replicate, List.cons_append, List.nil_append, List.append_nil, List.getElem?_cons_zero, List.getElem?_cons_succ, List.set_cons_zero, List.set_cons_succ, Option.some.injEq, V.int.injEq, V.bl.injEq, V.ref.injEq, V.ty.injEq, List.cons.injEq, and_true, true_and, exists_eq_left, exists_eq_left', exists_and_left, exists_and_right, exists_eq, exists_eq', and_assoc, Nat.reduceAdd, Nat.reduceSub, Bool.not_true, Bool.not_false, Bool.false_eq_true, if_true, if_false, reduceIte, Nat.zero_add, decide_true, decide_false, selC, comp_K, tYes, Option.join_some, rIxTH, rIxLH, rLenH, rIsiF, at0, at1, at2, at3, at4, at5, at6, at7, at8, HO.tup.injEq, HO.lst.injEq, reduceCtorEq, false_or, or_false, tyF_non, tyF_bl, tyF_int, tyF_str, exists_const, Int.reduceAdd, Int.reduceMul, Int.reduceSub, gSub, rSetL, tSl, tPart, tNoPart, rSlH, upd_same, upd_upd, rIntB, rListH, tBM, tBM0, rAppend, rClear, tPar, gTupH, hl]
  unfold inB at k
  by_cases hx : 0 ≤ x ∧ x < 4
  · rw [decide_eq_true hx] at k
    rw [decide_eq_true hx.1, decide_eq_true hx.2]
    by_cases hy : 0 ≤ y ∧ y < 4
    · rw [decide_eq_true hy] at k
      rw [decide_eq_true hy.1, decide_eq_true hy.2]
      have ej : (4 * y + x) = (((4 * y + x).toNat : Nat) : Int) := by omega
      have e : atI (bs.map V.bl) (4 * y + x) = some (.bl (bs.getD (4 * y + x).toNat false)) := by
        rw [ej]
        refine atI_nat ?_
        have lt : (4 * y + x).toNat < bs.length := by omega
        rw [← ej, List.getElem?_map, List.getD_eq_getElem?_getD, List.getElem?_eq_getElem lt]
        rfl
      refine iteT (iteT (iteT (iteT ⟨.inl ⟨by decide, by decide⟩, _, e, ?_⟩)))
      simpa using k
    · rw [decide_eq_false hy] at k
      refine iteT (iteT ?_)
      by_cases h1 : 0 ≤ y
      · rw [decide_eq_true h1, decide_eq_false (by omega : ¬ y < 4)]
        exact iteT (iteF (by simpa using k))
      · rw [decide_eq_false h1]
        exact iteF (by simpa using k)
  · rw [decide_eq_false hx] at k
    by_cases h1 : 0 ≤ x
    · rw [decide_eq_true h1, decide_eq_false (by omega : ¬ x < 4)]
      exact iteT (iteF (by simpa using k))
    · rw [decide_eq_false h1]
      exact iteF (by simpa using k)
theorem ok_law_edge (T : Txt K mg ad fd) : FnOk P w K mg base CX0 2 (ad 13) (fd 13) ["_law_held_here", "_law_x", "_law_y", "_law_way"] sp_edge := by
  refine T.law_edge.fn.ok sc_law_edge (fun vs H Q E h => ?_) (fun cdv A outer s H vs Q E hr h => ?_)
  · obtain ⟨l, bs, x, y, k, rfl, _⟩ := h
    rfl
  obtain ⟨l, bs, x, y, k, rfl, hb, q⟩ := h
  have qpss3 := @pss3
  have qps_set := @ps_set
  have qpe_callTy := @pe_callTy
  have qpa1 := @pa1
  have qpe_call := @pe_call
  have qpa3 := @pa3
  have qpv := @pv
  have qps_if := @ps_if
  have qpt_cmpR := @pt_cmpR
  have qpe_int := @pe_int
  have qpss_one := @pss_one
  have qps_ret := @ps_ret
  have qpe_op := @pe_op
  have qpss_nil := @pss_nil
  generalize @L2.PE = QE, @L2.PT = QT, @L2.PW = QW, @L2.PA = QA, @L2.PS = QS, @L2.PSs = QSs, @L2.PG = QG, @L2.PGs = QGs, @L2.PI = QI, @L2.PO = QO, @L2.PIf = QIf at qpss3 qps_set qpe_callTy qpa1 qpe_call qpa3 qpv qps_if qpt_cmpR qpe_int qpss_one qps_ret qpe_op qpss_nil ⊢
  refine ⟨_,
    (qpss3
      (qps_set (i := 4) sc_law_edge.nd rfl (Or.inl rfl) (qpe_callTy call_intB rfl T.b_int bt_int (qpa1 (qpe_call (ok_law_in T) (hr.mono (by decide)) rfl T.law_in.mg T.law_in.fn.kp T.law_in.bn .nil pass0 (qpa3 (qpv 0) ns_Name (qpv 1) ns_Name (qpv 2) ns_Name)) ns_Call)))
      (qps_if (qpt_cmpR op_eq (qpv 3) qpe_int (nomark _)) (qpss_one (qps_ret (qpe_op op_sub (qpv 4) (qpe_callTy call_intB rfl T.b_int bt_int (qpa1 (qpe_call (ok_law_in T) (hr.mono (by decide)) rfl T.law_in.mg T.law_in.fn.kp T.law_in.bn .nil pass0 (qpa3 (qpv 0) ns_Name (qpv 1) ns_Name (qpe_op op_sub (qpv 2) qpe_int) ns_BinOp)) ns_Call))))) qpss_nil)
      (qps_ret (qpe_op op_sub (qpe_callTy call_intB rfl T.b_int bt_int (qpa1 (qpe_call (ok_law_in T) (hr.mono (by decide)) rfl T.law_in.mg T.law_in.fn.kp T.law_in.bn .nil pass0 (qpa3 (qpv 0) ns_Name (qpe_op op_sub (qpv 1) qpe_int) ns_BinOp (qpv 2) ns_Name)) ns_Call)) (qpv 4))))
    , ?_⟩
  clear  qpss3 qps_set qpe_callTy qpa1 qpe_call qpa3 qpv qps_if qpt_cmpR qpe_int qpss_one qps_ret qpe_op qpss_nil QE QT QW QA QS QSs QG QGs QI QO QIf
  simp only [sp_in, tSeq, tNext, tRet, tRetN, tIfS, tAsg, gName, tDrop, tVar, tC, tOp, tUn, rI, rI0, rU, rEq, rNe, tTest, tB, tNot, tAnd, tOr, tAndV, tOrV, tNotV, tIf, tCB, tCall, tNil, tCons, tTup, tLst, gTup, gCons, gNil, L2.start, rIsi, rIxT, rIxL, cx_K, tyN_non, tyN_bl, tyN_int, tyN_str, isi_ii, isi_ib, isi_it, isi_il, isi_bi, isi_bb, isi_tt, isi_ni, isi_si, isi_ti, isi_li, isi_di, isi_ll, scal_ii, scal_bb, sz0, sz1, sz2, sz3, sz4, List.map_cons, List.map_nil, List.length_cons, List.length_nil, List.replicate, List.cons_append, List.nil_append, List.append_nil, List.getElem?_cons_zero, List.getElem?_cons_succ, List.set_cons_zero, List.set_cons_succ, Option.some.injEq, V.int.injEq, V.bl.injEq, V.ref.injEq, V.ty.injEq, List.cons.injEq, and_true, true_and, exists_eq_left, exists_eq_left', exists_and_left, exists_and_right, exists_eq, exists_eq', and_assoc, Nat.reduceAdd, Nat.reduceSub, Bool.not_true, Bool.not_false, Bool.false_eq_true, if_true, if_false, reduceIte, Nat.zero_add, decide_true, decide_false, selC, comp_K, tYes, Option.join_some, rIxTH, rIxLH, rLenH, rIsiF, at0, at1, at2, at3, at4, at5, at6, at7, at8, HO.tup.injEq, HO.lst.injEq, reduceCtorEq, false_or, or_false, tyF_non, tyF_bl, tyF_int, tyF_str, exists_const, Int.reduceAdd, Int.reduceMul, Int.reduceSub, gSub, rSetL, tSl, tPart, tNoPart, rSlH, upd_same, upd_upd, rIntB, rListH, tBM, tBM0, rAppend, rClear, tPar, gTupH]
  unfold edV at q
  refine ⟨bs, hb, ite2 (fun c => ⟨bs, hb, ?_⟩) (fun c => ⟨bs, hb, ?_⟩)⟩
  · rw [if_pos (of_decide_eq_true c)] at q
    exact q
  · rw [if_neg fun z => c (decide_eq_true z)] at q
    exact q
theorem rd_l2 {K : PySem.W.Frag} {H : Hp} {p : Addr} {a b : Int} (h : H p = some (.lst [.int a, .int b])) : RdD K H (.list [.int a, .int b]) (.ref p) := by
  rw [RdD]
  refine ⟨p, _, rfl, .of h, ?_⟩
  rw [RdDs]
  refine ⟨_, _, rfl, by rw [RdD], ?_⟩
  rw [RdDs]
  refine ⟨_, _, rfl, by rw [RdD], ?_⟩
  rw [RdDs]
theorem l2_shaped (a b : Int) : SeqAt.shaped (.list [.int a, .int b]) = true := by
  simp [SeqAt.shaped, PyData.canLay0, PyData.canLayAll0, PyData.depth, PyData.depthAll]
theorem l2_eqv (a b c d : Int) : PyData.eqv (.list [.int a, .int b]) (.list [.int c, .int d]) = decide (a = c ∧ b = d) := by
  rw [Bool.eq_iff_iff]
  simp [PyData.eqv, PyData.eqvAll]
theorem ok_law_smooth (T : Txt K mg ad fd) : FnOk P w K mg base CX0 3 (ad 14) (fd 14) ["_law_held_here", "_law_x", "_law_y"] sp_smooth := by
  refine T.law_smooth.fn.ok sc_law_smooth (fun vs H Q E h => ?_) (fun cdv A outer s H vs Q E hr h => ?_)
  · obtain ⟨l, bs, x, y, rfl, _⟩ := h
    rfl
  obtain ⟨l, bs, x, y, rfl, hb, q⟩ := h
  have qpss4 := @pss4
  have qps_set := @ps_set
  have qpe_lst := @pe_lst
  have qpa2 := @pa2
  have qpe_call := @pe_call
  have qpa4 := @pa4
  have qpv := @pv
  have qpe_op := @pe_op
  have qpe_int := @pe_int
  have qps_if := @ps_if
  have qpt_cmpR := @pt_cmpR
  have qpss_one := @pss_one
  have qps_ret := @ps_ret
  have qpe_and := @pe_and
  have qpe_cmpR := @pe_cmpR
  have qpe_ix := @pe_ix
  have qpe_one := @pe_one
  have qpss_nil := @pss_nil
  generalize @L2.PE = QE, @L2.PT = QT, @L2.PW = QW, @L2.PA = QA, @L2.PS = QS, @L2.PSs = QSs, @L2.PG = QG, @L2.PGs = QGs, @L2.PI = QI, @L2.PO = QO, @L2.PIf = QIf at qpss4 qps_set qpe_lst qpa2 qpe_call qpa4 qpv qpe_op qpe_int qps_if qpt_cmpR qpss_one qps_ret qpe_and qpe_cmpR qpe_ix qpe_one qpss_nil ⊢
  refine ⟨_,
    (qpss4
      (qps_set (i := 3) sc_law_smooth.nd rfl (Or.inl rfl) (qpe_lst (qpa2 (qpe_call (ok_law_edge T) (hr.mono (by decide)) rfl T.law_edge.mg T.law_edge.fn.kp T.law_edge.bn .nil pass0 (qpa4 (qpv 0) ns_Name (qpe_op op_sub (qpv 1) qpe_int) ns_BinOp (qpv 2) ns_Name qpe_int ns_Constant)) ns_Call (qpe_call (ok_law_edge T) (hr.mono (by decide)) rfl T.law_edge.mg T.law_edge.fn.kp T.law_edge.bn .nil pass0 (qpa4 (qpv 0) ns_Name (qpv 1) ns_Name (qpv 2) ns_Name qpe_int ns_Constant)) ns_Call)))
      (qps_set (i := 4) sc_law_smooth.nd rfl (Or.inl rfl) (qpe_lst (qpa2 (qpe_call (ok_law_edge T) (hr.mono (by decide)) rfl T.law_edge.mg T.law_edge.fn.kp T.law_edge.bn .nil pass0 (qpa4 (qpv 0) ns_Name (qpv 1) ns_Name (qpe_op op_sub (qpv 2) qpe_int) ns_BinOp qpe_int ns_Constant)) ns_Call (qpe_call (ok_law_edge T) (hr.mono (by decide)) rfl T.law_edge.mg T.law_edge.fn.kp T.law_edge.bn .nil pass0 (qpa4 (qpv 0) ns_Name (qpv 1) ns_Name (qpv 2) ns_Name qpe_int ns_Constant)) ns_Call)))
      (qps_if (qpt_cmpR (op_eqD (hu64 hr)) (qpv 3) (qpe_lst (qpa2 qpe_int ns_Constant qpe_int ns_Constant)) (nomark _)) (qpss_one (qps_ret (qpe_and (qpe_cmpR op_ne (qpe_ix ix_listH (qpv 4) qpe_int (fun _ _ => rfl)) qpe_int (nomark _)) (qpe_one (qpe_cmpR op_eq (qpe_ix ix_listH (qpv 4) qpe_int (fun _ _ => rfl)) (qpe_ix ix_listH (qpv 4) qpe_int (fun _ _ => rfl)) (nomark _)))))) qpss_nil)
      (qps_ret (qpe_and (qpe_cmpR (op_eqD (hu64 hr)) (qpv 4) (qpe_lst (qpa2 qpe_int ns_Constant qpe_int ns_Constant)) (nomark _)) (qpe_one (qpe_cmpR op_eq (qpe_ix ix_listH (qpv 3) qpe_int (fun _ _ => rfl)) (qpe_ix ix_listH (qpv 3) qpe_int (fun _ _ => rfl)) (nomark _))))))
    , ?_⟩
  clear  qpss4 qps_set qpe_lst qpa2 qpe_call qpa4 qpv qpe_op qpe_int qps_if qpt_cmpR qpss_one qps_ret qpe_and qpe_cmpR qpe_ix qpe_one qpss_nil QE QT QW QA QS QSs QG QGs QI QO QIf
  simp only [sp_edge, tSeq, tNext, tRet, tRetN, tIfS, tAsg, gName, tDrop, tVar, tC, tOp, tUn, rI, rI0, rU, rEq, rNe, tTest, tB, tNot, tAnd, tOr, tAndV, tOrV, tNotV, tIf, tCB, tCall, tNil, tCons, tTup, tLst, gTup, gCons, gNil, L2.start, rIsi, rIxT, rIxL, cx_K, tyN_non, tyN_bl, tyN_int, tyN_str, isi_ii, isi_ib, isi_it, isi_il, isi_bi, isi_bb, isi_tt, isi_ni, isi_si, isi_ti, isi_li, isi_di, isi_ll, scal_ii, scal_bb, sz0, sz1, sz2, sz3, sz4, List.map_cons, List.map_nil, List.length_cons, List.length_nil, List.replicate, List.cons_append, List.nil_append, List.append_nil, List.getElem?_cons_zero, List.getElem?_cons_succ, List.set_cons_zero, List.set_cons_succ, Option.some.injEq, V.int.injEq, V.bl.injEq, V.ref.injEq, V.ty.injEq, List.cons.injEq, and_true, true_and, exists_eq_left, exists_eq_left', exists_and_left, exists_and_right, exists_eq, exists_eq', and_assoc, Nat.reduceAdd, Nat.reduceSub, Bool.not_true, Bool.not_false, Bool.false_eq_true, if_true, if_false, reduceIte, Nat.zero_add, decide_true, decide_false, selC, comp_K, tYes, Option.join_some, rIxTH, rIxLH, rLenH, rIsiF, at0, at1, at2, at3, at4, at5, at6, at7, at8, HO.tup.injEq, HO.lst.injEq, reduceCtorEq, false_or, or_false, tyF_non, tyF_bl, tyF_int, tyF_str, exists_const, Int.reduceAdd, Int.reduceMul, Int.reduceSub, gSub, rSetL, tSl, tPart, tNoPart, rSlH, upd_same, upd_upd, rIntB, rListH, tBM, tBM0, rAppend, rClear, tPar, gTupH]
  unfold smB at q
  refine ⟨bs, hb, bs, hb, fun p hp => ?_⟩
  have e0 : ∀ a b, edV (inB bs) a b 0 = eH (inB bs) a b := fun _ _ => rfl
  rw [e0, e0]
  generalize eH (inB bs) (x - 1) y = f1 at *
  generalize eH (inB bs) x y = f2 at *
  have gp := same_new hp (HO.lst [V.int f1, V.int f2])
  have hp1 : upd H p (HO.lst [V.int f1, V.int f2]) p = some (HO.lst [V.int f1, V.int f2]) := upd_same
  have hb1 := hb.same gp
  generalize upd H p (HO.lst [V.int f1, V.int f2]) = H1 at *
  refine ⟨bs, hb1, bs, hb1, fun p1 h1 p2 => ?_⟩
  have e1 : ∀ a b, edV (inB bs) a b 1 = eV (inB bs) a b := fun _ _ => rfl
  rw [e1, e1]
  generalize eV (inB bs) x (y - 1) = t1 at *
  generalize eV (inB bs) x y = t2 at *
  intro h2
  have g1 := same_new h1 (HO.lst [V.int t1, V.int t2])
  have hp11 : upd H1 p1 (HO.lst [V.int t1, V.int t2]) p1 = some (HO.lst [V.int t1, V.int t2]) := upd_same
  have hpp := g1 _ _ hp1
  generalize upd H1 p1 (HO.lst [V.int t1, V.int t2]) = H2 at *
  have g2 := same_new h2 (HO.lst [V.int 0, V.int 0])
  have hz : upd H2 p2 (HO.lst [V.int 0, V.int 0]) p2 = some (HO.lst [V.int 0, V.int 0]) := upd_same
  have hpA := g2 _ _ hpp
  have hpB := g2 _ _ hp11
  generalize upd H2 p2 (HO.lst [V.int 0, V.int 0]) = H3 at *
  have gA := gp.trans (g1.trans g2)
  refine ⟨_, _, rd_l2 hpA, rd_l2 hz, l2_shaped _ _, l2_shaped _ _, _, rfl, ?_⟩
  rw [l2_eqv]
  have z := q _ gA
  by_cases c : f1 = 0 ∧ f2 = 0
  · rw [if_pos c] at z
    rw [decide_eq_true c]
    refine iteT ?_
    simp only [tSeq, tNext, tRet, tRetN, tIfS, tAsg, gName, tDrop, tVar, tC, tOp, tUn, rI, rI0, rU, rEq, rNe, tTest, tB, tNot, tAnd, tOr, tAndV, tOrV, tNotV, tIf, tCB, tCall, tNil, tCons, tTup, tLst, gTup, gCons, gNil, L2.start, rIsi, rIxT, rIxL, cx_K, tyN_non, tyN_bl, tyN_int, tyN_str, isi_ii, isi_ib, isi_it, isi_il, isi_bi, isi_bb, isi_tt, isi_ni, isi_si, isi_ti, isi_li, isi_di, isi_ll, scal_ii, scal_bb, sz0, sz1, sz2, sz3, sz4, List.map_cons, List.map_nil, List.length_cons, List.length_nil, List.replicate, List.cons_append, List.nil_append, List.append_nil, List.getElem?_cons_zero, List.getElem?_cons_succ, List.set_cons_zero, List.set_cons_succ, Option.some.injEq, V.int.injEq, V.bl.injEq, V.ref.injEq, V.ty.injEq, List.cons.injEq, and_true, true_and, exists_eq_left, exists_eq_left', exists_and_left, exists_and_right, exists_eq, exists_eq', and_assoc, Nat.reduceAdd, Nat.reduceSub, Bool.not_true, Bool.not_false, Bool.false_eq_true, if_true, if_false, reduceIte, Nat.zero_add, decide_true, decide_false, selC, comp_K, tYes, Option.join_some, rIxTH, rIxLH, rLenH, rIsiF, at0, at1, at2, at3, at4, at5, at6, at7, at8, HO.tup.injEq, HO.lst.injEq, reduceCtorEq, false_or, or_false, tyF_non, tyF_bl, tyF_int, tyF_str, exists_const, Int.reduceAdd, Int.reduceMul, Int.reduceSub, gSub, rSetL, tSl, tPart, tNoPart, rSlH, upd_same, upd_upd, rIntB, rListH, tBM, tBM0, rAppend, rClear, tPar, gTupH, hpB]
    refine ite2 (fun c' => ?_) (fun c' => ?_)
    · have d : t1 ≠ 0 := by simpa using c'
      have e : decide (t1 ≠ 0 ∧ t1 = t2) = decide (t1 = t2) := decide_eq_decide.mpr ⟨And.right, fun h => ⟨d, h⟩⟩
      rw [e] at z
      exact z
    · have d : t1 = 0 := by simpa using c'
      rw [decide_eq_false (fun h => h.1 d)] at z
      exact z
  · rw [decide_eq_false c]
    refine iteF fun p3 h3 => ?_
    have g3 := same_new h3 (HO.lst [V.int 0, V.int 0])
    have hz3 : upd H3 p3 (HO.lst [V.int 0, V.int 0]) p3 = some (HO.lst [V.int 0, V.int 0]) := upd_same
    have hpC := g3 _ _ hpB
    have hpD := g3 _ _ hpA
    generalize upd H3 p3 (HO.lst [V.int 0, V.int 0]) = H4 at *
    have z := q _ (gA.trans g3)
    rw [if_neg c] at z
    refine ⟨_, _, rd_l2 hpC, rd_l2 hz3, l2_shaped _ _, l2_shaped _ _, _, rfl, ?_⟩
    rw [l2_eqv]
    by_cases d : t1 = 0 ∧ t2 = 0
    · rw [decide_eq_true d]
      refine iteT ?_
      simp only [tSeq, tNext, tRet, tRetN, tIfS, tAsg, gName, tDrop, tVar, tC, tOp, tUn, rI, rI0, rU, rEq, rNe, tTest, tB, tNot, tAnd, tOr, tAndV, tOrV, tNotV, tIf, tCB, tCall, tNil, tCons, tTup, tLst, gTup, gCons, gNil, L2.start, rIsi, rIxT, rIxL, cx_K, tyN_non, tyN_bl, tyN_int, tyN_str, isi_ii, isi_ib, isi_it, isi_il, isi_bi, isi_bb, isi_tt, isi_ni, isi_si, isi_ti, isi_li, isi_di, isi_ll, scal_ii, scal_bb, sz0, sz1, sz2, sz3, sz4, List.map_cons, List.map_nil, List.length_cons, List.length_nil, List.replicate, List.cons_append, List.nil_append, List.append_nil, List.getElem?_cons_zero, List.getElem?_cons_succ, List.set_cons_zero, List.set_cons_succ, Option.some.injEq, V.int.injEq, V.bl.injEq, V.ref.injEq, V.ty.injEq, List.cons.injEq, and_true, true_and, exists_eq_left, exists_eq_left', exists_and_left, exists_and_right, exists_eq, exists_eq', and_assoc, Nat.reduceAdd, Nat.reduceSub, Bool.not_true, Bool.not_false, Bool.false_eq_true, if_true, if_false, reduceIte, Nat.zero_add, decide_true, decide_false, selC, comp_K, tYes, Option.join_some, rIxTH, rIxLH, rLenH, rIsiF, at0, at1, at2, at3, at4, at5, at6, at7, at8, HO.tup.injEq, HO.lst.injEq, reduceCtorEq, false_or, or_false, tyF_non, tyF_bl, tyF_int, tyF_str, exists_const, Int.reduceAdd, Int.reduceMul, Int.reduceSub, gSub, rSetL, tSl, tPart, tNoPart, rSlH, upd_same, upd_upd, rIntB, rListH, tBM, tBM0, rAppend, rClear, tPar, gTupH, hpD]
      have e : decide ((t1 = 0 ∧ t2 = 0) ∧ f1 = f2) = decide (f1 = f2) := decide_eq_decide.mpr ⟨And.right, fun h => ⟨d, h⟩⟩
      rw [e] at z
      exact z
    · rw [decide_eq_false d]
      rw [decide_eq_false (fun h => d h.1)] at z
      exact iteF z
theorem ok_law_leaves (T : Txt K mg ad fd) : FnOk P w K mg base CX0 3 (ad 15) (fd 15) ["_law_held_here", "_law_x", "_law_y", "_law_dx", "_law_dy"] sp_leaves := by
  refine T.law_leaves.fn.ok sc_law_leaves (fun vs H Q E h => ?_) (fun cdv A outer s H vs Q E hr h => ?_)
  · obtain ⟨l, bs, x, y, dx, dy, rfl, _⟩ := h
    rfl
  obtain ⟨l, bs, x, y, dx, dy, rfl, hb, q⟩ := h
  have qpss2 := @pss2
  have qps_if := @ps_if
  have qpt_cmpR := @pt_cmpR
  have qpv := @pv
  have qpe_int := @pe_int
  have qpss_one := @pss_one
  have qps_ret := @ps_ret
  have qpe_cmpR := @pe_cmpR
  have qpe_call := @pe_call
  have qpa4 := @pa4
  have qpe_op := @pe_op
  have qpe_callB := @pe_callB
  have qpa2 := @pa2
  have qpss_nil := @pss_nil
  generalize @L2.PE = QE, @L2.PT = QT, @L2.PW = QW, @L2.PA = QA, @L2.PS = QS, @L2.PSs = QSs, @L2.PG = QG, @L2.PGs = QGs, @L2.PI = QI, @L2.PO = QO, @L2.PIf = QIf at qpss2 qps_if qpt_cmpR qpv qpe_int qpss_one qps_ret qpe_cmpR qpe_call qpa4 qpe_op qpe_callB qpa2 qpss_nil ⊢
  refine ⟨_,
    (qpss2
      (qps_if (qpt_cmpR op_eq (qpv 4) qpe_int (nomark _)) (qpss_one (qps_ret (qpe_cmpR op_eq (qpe_call (ok_law_edge T) (hr.mono (by decide)) rfl T.law_edge.mg T.law_edge.fn.kp T.law_edge.bn .nil pass0 (qpa4 (qpv 0) ns_Name (qpe_op op_add (qpv 1) (qpe_callB (call_min2 rfl) rfl T.b_min bt_min (qpa2 (qpv 3) ns_Name qpe_int ns_Constant))) ns_BinOp (qpv 2) ns_Name qpe_int ns_Constant)) (qpv 3) (nomark _)))) qpss_nil)
      (qps_ret (qpe_cmpR op_eq (qpe_call (ok_law_edge T) (hr.mono (by decide)) rfl T.law_edge.mg T.law_edge.fn.kp T.law_edge.bn .nil pass0 (qpa4 (qpv 0) ns_Name (qpv 1) ns_Name (qpe_op op_add (qpv 2) (qpe_callB (call_min2 rfl) rfl T.b_min bt_min (qpa2 (qpv 4) ns_Name qpe_int ns_Constant))) ns_BinOp qpe_int ns_Constant)) (qpv 4) (nomark _))))
    , ?_⟩
  clear  qpss2 qps_if qpt_cmpR qpv qpe_int qpss_one qps_ret qpe_cmpR qpe_call qpa4 qpe_op qpe_callB qpa2 qpss_nil QE QT QW QA QS QSs QG QGs QI QO QIf
  simp only [sp_edge, tSeq, tNext, tRet, tRetN, tIfS, tAsg, gName, tDrop, tVar, tC, tOp, tUn, rI, rI0, rU, rEq, rNe, tTest, tB, tNot, tAnd, tOr, tAndV, tOrV, tNotV, tIf, tCB, tCall, tNil, tCons, tTup, tLst, gTup, gCons, gNil, L2.start, rIsi, rIxT, rIxL, cx_K, tyN_non, tyN_bl, tyN_int, tyN_str, isi_ii, isi_ib, isi_it, isi_il, isi_bi, isi_bb, isi_tt, isi_ni, isi_si, isi_ti, isi_li, isi_di, isi_ll, scal_ii, scal_bb, sz0, sz1, sz2, sz3, sz4, List.map_cons, List.map_nil, List.length_cons, List.length_nil, List.replicate, List.cons_append, List.nil_append, List.append_nil, List.getElem?_cons_zero, List.getElem?_cons_succ, List.set_cons_zero, List.set_cons_succ, Option.some.injEq, V.int.injEq, V.bl.injEq, V.ref.injEq, V.ty.injEq, List.cons.injEq, and_true, true_and, exists_eq_left, exists_eq_left', exists_and_left, exists_and_right, exists_eq, exists_eq', and_assoc, Nat.reduceAdd, Nat.reduceSub, Bool.not_true, Bool.not_false, Bool.false_eq_true, if_true, if_false, reduceIte, Nat.zero_add, decide_true, decide_false, selC, comp_K, tYes, Option.join_some, rIxTH, rIxLH, rLenH, rIsiF, at0, at1, at2, at3, at4, at5, at6, at7, at8, HO.tup.injEq, HO.lst.injEq, reduceCtorEq, false_or, or_false, tyF_non, tyF_bl, tyF_int, tyF_str, exists_const, Int.reduceAdd, Int.reduceMul, Int.reduceSub, gSub, rSetL, tSl, tPart, tNoPart, rSlH, upd_same, upd_upd, rIntB, rListH, tBM, tBM0, rAppend, rClear, tPar, gTupH]
  unfold lvB at q
  refine ite2 (fun c => ⟨bs, hb, ?_⟩) (fun c => ⟨bs, hb, ?_⟩)
  · rw [if_pos (of_decide_eq_true c)] at q
    exact q
  · rw [if_neg fun z => c (decide_eq_true z)] at q
    exact q
theorem ok_law_spot (T : Txt K mg ad fd) : FnOk P w K mg base CX0 1 (ad 18) (fd 18) ["_law_map_of", "_law_x", "_law_y", "_law_w"] sp_spot := by
  refine T.law_spot.fn.ok sc_law_spot (fun vs H Q E h => ?_) (fun cdv A outer s H vs Q E hr h => ?_)
  · obtain ⟨p, M, x, y, k, rfl, _⟩ := h
    rfl
  obtain ⟨p, M, x, y, k, rfl, ⟨hp, hM⟩, lx, ly, lk, q⟩ := h
  have qpss3 := @pss3
  have qps_set := @ps_set
  have qpe_op := @pe_op
  have qpe_ix := @pe_ix
  have qpv := @pv
  have qpe_int := @pe_int
  have qps_ret := @ps_ret
  have qpe_tup := @pe_tup
  have qpa3 := @pa3
  generalize @L2.PE = QE, @L2.PT = QT, @L2.PW = QW, @L2.PA = QA, @L2.PS = QS, @L2.PSs = QSs, @L2.PG = QG, @L2.PGs = QGs, @L2.PI = QI, @L2.PO = QO, @L2.PIf = QIf at qpss3 qps_set qpe_op qpe_ix qpv qpe_int qps_ret qpe_tup qpa3 ⊢
  refine ⟨_,
    (qpss3
      (qps_set (i := 4) sc_law_spot.nd rfl (Or.inl rfl) (qpe_op op_add (qpe_op op_add (qpe_op op_mulB (qpe_ix ix_tupH (qpv 0) qpe_int (fun _ _ => rfl)) (qpv 1)) (qpe_op op_mulB (qpe_ix ix_tupH (qpv 0) qpe_int (fun _ _ => rfl)) (qpv 2))) (qpe_op op_mulB (qpe_ix ix_tupH (qpv 0) qpe_int (fun _ _ => rfl)) (qpv 3))))
      (qps_set (i := 5) sc_law_spot.nd rfl (Or.inl rfl) (qpe_op op_add (qpe_op op_add (qpe_op op_mulB (qpe_ix ix_tupH (qpv 0) qpe_int (fun _ _ => rfl)) (qpv 1)) (qpe_op op_mulB (qpe_ix ix_tupH (qpv 0) qpe_int (fun _ _ => rfl)) (qpv 2))) (qpe_op op_mulB (qpe_ix ix_tupH (qpv 0) qpe_int (fun _ _ => rfl)) (qpv 3))))
      (qps_ret (qpe_tup (qpa3 (qpv 4) ns_Name (qpv 5) ns_Name (qpe_op op_mulB (qpe_ix ix_tupH (qpv 0) qpe_int (fun _ _ => rfl)) (qpv 3)) ns_BinOp))))
    , ?_⟩
  clear  qpss3 qps_set qpe_op qpe_ix qpv qpe_int qps_ret qpe_tup qpa3 QE QT QW QA QS QSs QG QGs QI QO QIf
  simp only [tSeq, tNext, tRet, tRetN, tIfS, tAsg, gName, tDrop, tVar, tC, tOp, tUn, rI, rI0, rU, rEq, rNe, tTest, tB, tNot, tAnd, tOr, tAndV, tOrV, tNotV, tIf, tCB, tCall, tNil, tCons, tTup, tLst, gTup, gCons, gNil, L2.start, rIsi, rIxT, rIxL, cx_K, tyN_non, tyN_bl, tyN_int, tyN_str, isi_ii, isi_ib, isi_it, isi_il, isi_bi, isi_bb, isi_tt, isi_ni, isi_si, isi_ti, isi_li, isi_di, isi_ll, scal_ii, scal_bb, sz0, sz1, sz2, sz3, sz4, List.map_cons, List.map_nil, List.length_cons, List.length_nil, List.replicate, List.cons_append, List.nil_append, List.append_nil, List.getElem?_cons_zero, List.getElem?_cons_succ, List.set_cons_zero, List.set_cons_succ, Option.some.injEq, V.int.injEq, V.bl.injEq, V.ref.injEq, V.ty.injEq, List.cons.injEq, and_true, true_and, exists_eq_left, exists_eq_left', exists_and_left, exists_and_right, exists_eq, exists_eq', and_assoc, Nat.reduceAdd, Nat.reduceSub, Bool.not_true, Bool.not_false, Bool.false_eq_true, if_true, if_false, reduceIte, Nat.zero_add, decide_true, decide_false, selC, comp_K, tYes, Option.join_some, rIxTH, rIxLH, rLenH, rIsiF, at0, at1, at2, at3, at4, at5, at6, at7, at8, HO.tup.injEq, HO.lst.injEq, reduceCtorEq, false_or, or_false, tyF_non, tyF_bl, tyF_int, tyF_str, exists_const, Int.reduceAdd, Int.reduceMul, Int.reduceSub, gSub, rSetL, tSl, tPart, tNoPart, rSlH, upd_same, upd_upd, rIntB, rListH, tBM, tBM0, rAppend, rClear, tPar, gTupH, hp]
  obtain ⟨qa, qb, qc, qd⟩ := quad_le hM.q
  have sm : ∀ {z : Int}, z.natAbs ≤ 20 → z.natAbs < 2 ^ 70 := fun h => Nat.lt_of_le_of_lt h (by decide)
  have s5 : ∀ {z : Int}, z.natAbs ≤ 5 → z.natAbs < 2 ^ 70 := fun h => sm (by omega)
  have s2 : ∀ {z : Int}, z.natAbs ≤ 2 → z.natAbs < 2 ^ 70 := fun h => sm (by omega)
  have mm : M.m.natAbs < 2 ^ 70 := sm (by have := hM.m; omega)
  exact ⟨cbig (s5 qa) (sm lx), cbig (s5 qb) (sm ly), cbig hM.e (s2 lk), cbig (s5 qc) (sm lx), cbig (s5 qd) (sm ly), cbig hM.f (s2 lk), cbig mm (s2 lk), fun r hr' => q r _ (same_new hr' _) upd_same⟩
theorem loI_succ {r : Q3} {i : Nat} {d : Int} (h : ([2, 2, 3, 3] : List Int)[i]? = some d) : loI r (i + 1) = loS d (loI r i) := by
  unfold loI
  rw [List.take_add_one, h, List.foldl_append]
  rfl
theorem d23 {i : Nat} {v : V} (h : ([V.int 2, V.int 2, V.int 3, V.int 3] : List V)[i]? = some v) : ∃ d : Int, v = .int d ∧ ([2, 2, 3, 3] : List Int)[i]? = some d ∧ (d = 2 ∨ d = 3) := by
  match i, h with
  | 0, h => cases h; exact ⟨2, rfl, rfl, .inl rfl⟩
  | 1, h => cases h; exact ⟨2, rfl, rfl, .inl rfl⟩
  | 2, h => cases h; exact ⟨3, rfl, rfl, .inr rfl⟩
  | 3, h => cases h; exact ⟨3, rfl, rfl, .inr rfl⟩
theorem fm_of {x d : Int} (h : d = 2 ∨ d = 3) : x.fmod d = x % d ∧ x.fdiv d = x / d := ⟨Int.fmod_eq_emod_of_nonneg _ (by omega), Int.fdiv_eq_ediv_of_nonneg _ (by omega)⟩
theorem ok_law_low (T : Txt K mg ad fd) : FnOk P w K mg base CX0 1 (ad 19) (fd 19) ["_law_spot_here"] sp_low := by
  refine T.law_low.fn.ok sc_law_low (fun vs H Q E h => ?_) (fun cdv A outer s H vs Q E hr h => ?_)
  · obtain ⟨p, r, rfl, _⟩ := h
    rfl
  obtain ⟨p, r, rfl, hp, k⟩ := h
  have qpss5 := @pss5
  have qps_set := @ps_set
  have qpe_ix := @pe_ix
  have qpv := @pv
  have qpe_int := @pe_int
  have qps_for := @ps_for
  have qpi_list := @pi_list
  have qpe_lst := @pe_lst
  have qpa4 := @pa4
  have qpg_name := @pg_name
  have qpss_one := @pss_one
  have qps_if := @ps_if
  have qPWpt := @PW.pt
  have qpw_and := @pw_and
  have qpt_cmpR := @pt_cmpR
  have qpe_op := @pe_op
  have qpw_and1 := @pw_and1
  have qpss3 := @pss3
  have qpss_nil := @pss_nil
  have qps_ret := @ps_ret
  have qpe_tup := @pe_tup
  have qpa3 := @pa3
  generalize @L2.PE = QE, @L2.PT = QT, @L2.PW = QW, @L2.PA = QA, @L2.PS = QS, @L2.PSs = QSs, @L2.PG = QG, @L2.PGs = QGs, @L2.PI = QI, @L2.PO = QO, @L2.PIf = QIf at qpss5 qps_set qpe_ix qpv qpe_int qps_for qpi_list qpe_lst qpa4 qpg_name qpss_one qps_if qPWpt qpw_and qpt_cmpR qpe_op qpw_and1 qpss3 qpss_nil qps_ret qpe_tup qpa3 ⊢
  refine ⟨_,
    (qpss5
      (qps_set (i := 1) sc_law_low.nd rfl (Or.inl rfl) (qpe_ix ix_tupH (qpv 0) qpe_int (fun _ _ => rfl)))
      (qps_set (i := 2) sc_law_low.nd rfl (Or.inl rfl) (qpe_ix ix_tupH (qpv 0) qpe_int (fun _ _ => rfl)))
      (qps_set (i := 3) sc_law_low.nd rfl (Or.inl rfl) (qpe_ix ix_tupH (qpv 0) qpe_int (fun _ _ => rfl)))
      (qps_for PassesOwn.never rfl (qpi_list (qpe_lst (qpa4 qpe_int ns_Constant qpe_int ns_Constant qpe_int ns_Constant qpe_int ns_Constant))) (qpg_name (i := 4) sc_law_low.nd rfl (Or.inl rfl)) (qpss_one (qps_if (qPWpt (qpw_and (qpt_cmpR op_eq (qpe_op op_modN (qpv 1) (qpv 4)) qpe_int (nomark _)) (qpw_and (qpt_cmpR op_eq (qpe_op op_modN (qpv 2) (qpv 4)) qpe_int (nomark _)) (qpw_and1 (qpt_cmpR op_eq (qpe_op op_modN (qpv 3) (qpv 4)) qpe_int (nomark _)))))) (qpss3
      (qps_set (i := 1) sc_law_low.nd rfl (Or.inl rfl) (qpe_op op_fdivB (qpv 1) (qpv 4)))
      (qps_set (i := 2) sc_law_low.nd rfl (Or.inl rfl) (qpe_op op_fdivB (qpv 2) (qpv 4)))
      (qps_set (i := 3) sc_law_low.nd rfl (Or.inl rfl) (qpe_op op_fdivB (qpv 3) (qpv 4)))) qpss_nil)))
      (qps_ret (qpe_tup (qpa3 (qpv 1) ns_Name (qpv 2) ns_Name (qpv 3) ns_Name))))
    , ?_⟩
  clear  qpss5 qps_set qpe_ix qpv qpe_int qps_for qpi_list qpe_lst qpa4 qpg_name qpss_one qps_if qPWpt qpw_and qpt_cmpR qpe_op qpw_and1 qpss3 qpss_nil qps_ret qpe_tup qpa3 QE QT QW QA QS QSs QG QGs QI QO QIf
  unfold QH at hp
  simp only [tSeq, tNext, tRet, tRetN, tIfS, tAsg, gName, tDrop, tVar, tC, tOp, tUn, rI, rI0, rU, rEq, rNe, tTest, tB, tNot, tAnd, tOr, tAndV, tOrV, tNotV, tIf, tCB, tCall, tNil, tCons, tTup, tLst, gTup, gCons, gNil, L2.start, rIsi, rIxT, rIxL, cx_K, tyN_non, tyN_bl, tyN_int, tyN_str, isi_ii, isi_ib, isi_it, isi_il, isi_bi, isi_bb, isi_tt, isi_ni, isi_si, isi_ti, isi_li, isi_di, isi_ll, scal_ii, scal_bb, sz0, sz1, sz2, sz3, sz4, List.map_cons, List.map_nil, List.length_cons, List.length_nil, List.replicate, List.cons_append, List.nil_append, List.append_nil, List.getElem?_cons_zero, List.getElem?_cons_succ, List.set_cons_zero, List.set_cons_succ, Option.some.injEq, V.int.injEq, V.bl.injEq, V.ref.injEq, V.ty.injEq, List.cons.injEq, and_true, true_and, exists_eq_left, exists_eq_left', exists_and_left, exists_and_right, exists_eq, exists_eq', and_assoc, Nat.reduceAdd, Nat.reduceSub, Bool.not_true, Bool.not_false, Bool.false_eq_true, if_true, if_false, reduceIte, Nat.zero_add, decide_true, decide_false, selC, comp_K, tYes, Option.join_some, rIxTH, rIxLH, rLenH, rIsiF, at0, at1, at2, at3, at4, at5, at6, at7, at8, HO.tup.injEq, HO.lst.injEq, reduceCtorEq, false_or, or_false, tyF_non, tyF_bl, tyF_int, tyF_str, exists_const, Int.reduceAdd, Int.reduceMul, Int.reduceSub, gSub, rSetL, tSl, tPart, tNoPart, rSlH, upd_same, upd_upd, rIntB, rListH, tBM, tBM0, rAppend, rClear, tPar, gTupH, hp]
  refine tFor_mk ?_
  simp only [iList, tSeq, tNext, tRet, tRetN, tIfS, tAsg, gName, tDrop, tVar, tC, tOp, tUn, rI, rI0, rU, rEq, rNe, tTest, tB, tNot, tAnd, tOr, tAndV, tOrV, tNotV, tIf, tCB, tCall, tNil, tCons, tTup, tLst, gTup, gCons, gNil, L2.start, rIsi, rIxT, rIxL, cx_K, tyN_non, tyN_bl, tyN_int, tyN_str, isi_ii, isi_ib, isi_it, isi_il, isi_bi, isi_bb, isi_tt, isi_ni, isi_si, isi_ti, isi_li, isi_di, isi_ll, scal_ii, scal_bb, sz0, sz1, sz2, sz3, sz4, List.map_cons, List.map_nil, List.length_cons, List.length_nil, List.replicate, List.cons_append, List.nil_append, List.append_nil, List.getElem?_cons_zero, List.getElem?_cons_succ, List.set_cons_zero, List.set_cons_succ, Option.some.injEq, V.int.injEq, V.bl.injEq, V.ref.injEq, V.ty.injEq, List.cons.injEq, and_true, true_and, exists_eq_left, exists_eq_left', exists_and_left, exists_and_right, exists_eq, exists_eq', and_assoc, Nat.reduceAdd, Nat.reduceSub, Bool.not_true, Bool.not_false, Bool.false_eq_true, if_true, if_false, reduceIte, Nat.zero_add, decide_true, decide_false, selC, comp_K, tYes, Option.join_some, rIxTH, rIxLH, rLenH, rIsiF, at0, at1, at2, at3, at4, at5, at6, at7, at8, HO.tup.injEq, HO.lst.injEq, reduceCtorEq, false_or, or_false, tyF_non, tyF_bl, tyF_int, tyF_str, exists_const, Int.reduceAdd, Int.reduceMul, Int.reduceSub, gSub, rSetL, tSl, tPart, tNoPart, rSlH, upd_same, upd_upd, rIntB, rListH, tBM, tBM0, rAppend, rClear, tPar, gTupH]
  intro l hl
  have gl := same_new hl (HO.lst [V.int 2, V.int 2, V.int 3, V.int 3])
  refine ⟨⟨_, .of upd_same⟩, ?_⟩
  refine for_list (K := K) (a := l) (xs := [V.int 2, V.int 2, V.int 3, V.int 3]) (fun i σ H' => H' = upd H l (HO.lst [V.int 2, V.int 2, V.int 3, V.int 3]) ∧ ∃ o, σ = [some (.ref p), some (.int (loI r i).x), some (.int (loI r i).y), some (.int (loI r i).w), o]) ⟨rfl, none, rfl⟩ (fun i σ H' _ iv => .of (by rw [iv.1]; exact upd_same)) ?_ ?_
  · rintro i v σ H2 hi ⟨rfl, o, rfl⟩
    obtain ⟨d, rfl, hd, d23⟩ := d23 hi
    have d0 : d ≠ 0 := by omega
    have ld : d.natAbs < 2 ^ 4 := by have e : (2 : Nat) ^ 4 = 16 := rfl; omega
    rw [loI_succ hd]
    simp only [tSeq, tNext, tRet, tRetN, tIfS, tAsg, gName, tDrop, tVar, tC, tOp, tUn, rI, rI0, rU, rEq, rNe, tTest, tB, tNot, tAnd, tOr, tAndV, tOrV, tNotV, tIf, tCB, tCall, tNil, tCons, tTup, tLst, gTup, gCons, gNil, L2.start, rIsi, rIxT, rIxL, cx_K, tyN_non, tyN_bl, tyN_int, tyN_str, isi_ii, isi_ib, isi_it, isi_il, isi_bi, isi_bb, isi_tt, isi_ni, isi_si, isi_ti, isi_li, isi_di, isi_ll, scal_ii, scal_bb, sz0, sz1, sz2, sz3, sz4, List.map_cons, List.map_nil, List.length_cons, List.length_nil, List.replicate, List.cons_append, List.nil_append, List.append_nil, List.getElem?_cons_zero, List.getElem?_cons_succ, List.set_cons_zero, List.set_cons_succ, Option.some.injEq, V.int.injEq, V.bl.injEq, V.ref.injEq, V.ty.injEq, List.cons.injEq, and_true, true_and, exists_eq_left, exists_eq_left', exists_and_left, exists_and_right, exists_eq, exists_eq', and_assoc, Nat.reduceAdd, Nat.reduceSub, Bool.not_true, Bool.not_false, Bool.false_eq_true, if_true, if_false, reduceIte, Nat.zero_add, decide_true, decide_false, selC, comp_K, tYes, Option.join_some, rIxTH, rIxLH, rLenH, rIsiF, at0, at1, at2, at3, at4, at5, at6, at7, at8, HO.tup.injEq, HO.lst.injEq, reduceCtorEq, false_or, or_false, tyF_non, tyF_bl, tyF_int, tyF_str, exists_const, Int.reduceAdd, Int.reduceMul, Int.reduceSub, gSub, rSetL, tSl, tPart, tNoPart, rSlH, upd_same, upd_upd, rIntB, rListH, tBM, tBM0, rAppend, rClear, tPar, gTupH, (fm_of d23).1, (fm_of d23).2]
    generalize loI r i = s at *
    unfold loS
    refine ⟨d0, ite2 (fun c1 => ⟨d0, ite2 (fun c2 => ⟨d0, ite2 (fun c3 => ?_) (fun c3 => ?_)⟩) (fun c2 => ?_)⟩) (fun c1 => ?_)⟩
    · rw [if_pos ⟨of_decide_eq_true c1, of_decide_eq_true c2, of_decide_eq_true c3⟩]
      exact ⟨cdivb d0 ld, cdivb d0 ld, cdivb d0 ld, rfl, rfl, rfl⟩
    · rw [if_neg fun z => c3 (decide_eq_true z.2.2)]
      trivial
    · rw [if_neg fun z => c2 (decide_eq_true z.2.1)]
      trivial
    · rw [if_neg fun z => c1 (decide_eq_true z.1)]
      trivial
  · rintro σ H2 ⟨rfl, o, rfl⟩
    simp only [tSeq, tNext, tRet, tRetN, tIfS, tAsg, gName, tDrop, tVar, tC, tOp, tUn, rI, rI0, rU, rEq, rNe, tTest, tB, tNot, tAnd, tOr, tAndV, tOrV, tNotV, tIf, tCB, tCall, tNil, tCons, tTup, tLst, gTup, gCons, gNil, L2.start, rIsi, rIxT, rIxL, cx_K, tyN_non, tyN_bl, tyN_int, tyN_str, isi_ii, isi_ib, isi_it, isi_il, isi_bi, isi_bb, isi_tt, isi_ni, isi_si, isi_ti, isi_li, isi_di, isi_ll, scal_ii, scal_bb, sz0, sz1, sz2, sz3, sz4, List.map_cons, List.map_nil, List.length_cons, List.length_nil, List.replicate, List.cons_append, List.nil_append, List.append_nil, List.getElem?_cons_zero, List.getElem?_cons_succ, List.set_cons_zero, List.set_cons_succ, Option.some.injEq, V.int.injEq, V.bl.injEq, V.ref.injEq, V.ty.injEq, List.cons.injEq, and_true, true_and, exists_eq_left, exists_eq_left', exists_and_left, exists_and_right, exists_eq, exists_eq', and_assoc, Nat.reduceAdd, Nat.reduceSub, Bool.not_true, Bool.not_false, Bool.false_eq_true, if_true, if_false, reduceIte, Nat.zero_add, decide_true, decide_false, selC, comp_K, tYes, Option.join_some, rIxTH, rIxLH, rLenH, rIsiF, at0, at1, at2, at3, at4, at5, at6, at7, at8, HO.tup.injEq, HO.lst.injEq, reduceCtorEq, false_or, or_false, tyF_non, tyF_bl, tyF_int, tyF_str, exists_const, Int.reduceAdd, Int.reduceMul, Int.reduceSub, gSub, rSetL, tSl, tPart, tNoPart, rSlH, upd_same, upd_upd, rIntB, rListH, tBM, tBM0, rAppend, rClear, tPar, gTupH]
    intro q hq
    exact k q _ (gl.trans (same_new hq _)) upd_same
theorem while_at {c : TT} {tb : TS} {D : Ends} {σ : St} {H : Hp} (Pv : St → Hp → Prop) (μ : St → Hp → Nat) (h0 : Pv σ H)
    (hs : ∀ σ H, Pv σ H → c σ H fun b H1 => if b = true then ∃ N : St → Hp → Prop, (∀ σ' H', N σ' H' → ∃ m', m' < μ σ H ∧ m' = μ σ' H' ∧ Pv σ' H') ∧ tb { D with nx := N, ct := N, bk := D.nx } σ H1 else D.nx σ H1) : tWhile c tb D σ H := by
  refine ⟨fun m σ H => m = μ σ H ∧ Pv σ H, ⟨_, rfl, h0⟩, ?_⟩
  rintro m σ H ⟨rfl, p⟩
  exact hs σ H p
def D2H (H : Hp) (p : Addr) (d : Int × Int) : Prop := H p = some (.tup [.int d.1, .int d.2])
theorem idxK_succ (i : Nat) : idxK (i + 1) = idxK i ++ dirs.map fun d => ⟨(i : Int) % 5, (i : Int) / 5, d.1, d.2⟩ := by
  unfold idxK
  rw [List.range_succ, List.flatMap_append]
  simp
theorem ts_trans {H H' H'' : Hp} (a : TupSame H H') (b : TupSame H' H'') : TupSame H H'' := fun p xs h => b _ _ (a _ _ h)
theorem ok_law_ways (T : Txt K mg ad fd) : FnOk P w K mg base CX0 4 (ad 16) (fd 16) ["_law_held_here"] sp_ways := by
  refine T.law_ways.fn.ok sc_law_ways (fun vs H Q E h => ?_) (fun cdv A outer s H vs Q E hr h => ?_)
  · obtain ⟨l, bs, rfl, _⟩ := h
    rfl
  obtain ⟨l, bs, rfl, hb, k⟩ := h
  have qpss3 := @pss3
  have qps_set := @ps_set
  have qpe_lst := @pe_lst
  have qpa_nil := @pa_nil
  have qps_for := @ps_for
  have qpi_range1 := @pi_range1
  have qpa1 := @pa1
  have qpe_int := @pe_int
  have qpg_name := @pg_name
  have qpe_op := @pe_op
  have qpv := @pv
  have qpi_list := @pi_list
  have qpa4 := @pa4
  have qpe_tup := @pe_tup
  have qpa2 := @pa2
  have qpe_un := @pe_un
  have qpg_tupH := @pg_tupH
  have qpgs_cons := @pgs_cons
  have qpgs_nil := @pgs_nil
  have qpss_one := @pss_one
  have qps_if := @ps_if
  have qPWpt := @PW.pt
  have qpw_and := @pw_and
  have qpt_not := @pt_not
  have qpt_val := @pt_val
  have qpe_call := @pe_call
  have qpa3 := @pa3
  have qpw_and1 := @pw_and1
  have qpa5 := @pa5
  have qps_while := @ps_while
  have qps_expr := @ps_expr
  have qpe_bm := @pe_bm
  have qpss_nil := @pss_nil
  have qps_ret := @ps_ret
  generalize @L2.PE = QE, @L2.PT = QT, @L2.PW = QW, @L2.PA = QA, @L2.PS = QS, @L2.PSs = QSs, @L2.PG = QG, @L2.PGs = QGs, @L2.PI = QI, @L2.PO = QO, @L2.PIf = QIf at qpss3 qps_set qpe_lst qpa_nil qps_for qpi_range1 qpa1 qpe_int qpg_name qpe_op qpv qpi_list qpa4 qpe_tup qpa2 qpe_un qpg_tupH qpgs_cons qpgs_nil qpss_one qps_if qPWpt qpw_and qpt_not qpt_val qpe_call qpa3 qpw_and1 qpa5 qps_while qps_expr qpe_bm qpss_nil qps_ret ⊢
  refine ⟨_,
    (qpss3
      (qps_set (i := 1) sc_law_ways.nd rfl (Or.inl rfl) (qpe_lst qpa_nil))
      (qps_for PassesOwn.never rfl (qpi_range1 rfl T.b_range (qpa1 qpe_int ns_Constant)) (qpg_name (i := 2) sc_law_ways.nd rfl (Or.inl rfl)) (qpss3
      (qps_set (i := 3) sc_law_ways.nd rfl (Or.inl rfl) (qpe_op op_mod (qpv 2) qpe_int))
      (qps_set (i := 4) sc_law_ways.nd rfl (Or.inl rfl) (qpe_op op_fdiv (qpv 2) qpe_int))
      (qps_for PassesOwn.never rfl (qpi_list (qpe_lst (qpa4 (qpe_tup (qpa2 qpe_int ns_Constant qpe_int ns_Constant)) ns_Tuple (qpe_tup (qpa2 qpe_int ns_Constant qpe_int ns_Constant)) ns_Tuple (qpe_tup (qpa2 (qpe_un un_neg qpe_int) ns_UnaryOp qpe_int ns_Constant)) ns_Tuple (qpe_tup (qpa2 qpe_int ns_Constant (qpe_un un_neg qpe_int) ns_UnaryOp)) ns_Tuple))) (qpg_tupH (n := 2) rfl (qpgs_cons (qpg_name (i := 5) sc_law_ways.nd rfl (Or.inl rfl)) (qpgs_cons (qpg_name (i := 6) sc_law_ways.nd rfl (Or.inl rfl)) qpgs_nil))) (qpss_one (qps_if (qPWpt (qpw_and (qpt_not (qpt_val (qpe_call (ok_law_smooth T) (hr.mono (by decide)) rfl T.law_smooth.mg T.law_smooth.fn.kp T.law_smooth.bn .nil pass0 (qpa3 (qpv 0) ns_Name (qpv 3) ns_Name (qpv 4) ns_Name)))) (qpw_and1 (qpt_val (qpe_call (ok_law_leaves T) (hr.mono (by decide)) rfl T.law_leaves.mg T.law_leaves.fn.kp T.law_leaves.bn .nil pass0 (qpa5 (qpv 0) ns_Name (qpv 3) ns_Name (qpv 4) ns_Name (qpv 5) ns_Name (qpv 6) ns_Name)))))) (qpss3
      (qps_set (i := 7) sc_law_ways.nd rfl (Or.inl rfl) qpe_int)
      (qps_while PassesOwn.never (qpt_val (qpe_call (ok_law_smooth T) (hr.mono (by decide)) rfl T.law_smooth.mg T.law_smooth.fn.kp T.law_smooth.bn .nil pass0 (qpa3 (qpv 0) ns_Name (qpe_op op_add (qpv 3) (qpe_op op_mulB (qpv 7) (qpv 5))) ns_BinOp (qpe_op op_add (qpv 4) (qpe_op op_mulB (qpv 7) (qpv 6))) ns_BinOp))) (qpss_one (qps_set (i := 7) sc_law_ways.nd rfl (Or.inl rfl) (qpe_op op_add (qpv 7) qpe_int))))
      (qps_expr (qpe_bm PySem.F.plainAttrs_list PySem.F.slot_list_append PySem.F.type_list_append mt_append (qpv 1) (qpa1 (qpe_tup (qpa4 (qpv 3) ns_Name (qpv 4) ns_Name (qpe_op op_add (qpv 3) (qpe_op op_mulB (qpv 7) (qpv 5))) ns_BinOp (qpe_op op_add (qpv 4) (qpe_op op_mulB (qpv 7) (qpv 6))) ns_BinOp)) ns_Tuple)))) qpss_nil)))))
      (qps_ret (qpv 1)))
    , ?_⟩
  clear  qpss3 qps_set qpe_lst qpa_nil qps_for qpi_range1 qpa1 qpe_int qpg_name qpe_op qpv qpi_list qpa4 qpe_tup qpa2 qpe_un qpg_tupH qpgs_cons qpgs_nil qpss_one qps_if qPWpt qpw_and qpt_not qpt_val qpe_call qpa3 qpw_and1 qpa5 qps_while qps_expr qpe_bm qpss_nil qps_ret QE QT QW QA QS QSs QG QGs QI QO QIf
  simp only [tSeq, tNext, tRet, tRetN, tIfS, tAsg, gName, tDrop, tVar, tC, tOp, tUn, rI, rI0, rU, rEq, rNe, tTest, tB, tNot, tAnd, tOr, tAndV, tOrV, tNotV, tIf, tCB, tCall, tNil, tCons, tTup, tLst, gTup, gCons, gNil, L2.start, rIsi, rIxT, rIxL, cx_K, tyN_non, tyN_bl, tyN_int, tyN_str, isi_ii, isi_ib, isi_it, isi_il, isi_bi, isi_bb, isi_tt, isi_ni, isi_si, isi_ti, isi_li, isi_di, isi_ll, scal_ii, scal_bb, sz0, sz1, sz2, sz3, sz4, List.map_cons, List.map_nil, List.length_cons, List.length_nil, List.replicate, List.cons_append, List.nil_append, List.append_nil, List.getElem?_cons_zero, List.getElem?_cons_succ, List.set_cons_zero, List.set_cons_succ, Option.some.injEq, V.int.injEq, V.bl.injEq, V.ref.injEq, V.ty.injEq, List.cons.injEq, and_true, true_and, exists_eq_left, exists_eq_left', exists_and_left, exists_and_right, exists_eq, exists_eq', and_assoc, Nat.reduceAdd, Nat.reduceSub, Bool.not_true, Bool.not_false, Bool.false_eq_true, if_true, if_false, reduceIte, Nat.zero_add, decide_true, decide_false, selC, comp_K, tYes, Option.join_some, rIxTH, rIxLH, rLenH, rIsiF, at0, at1, at2, at3, at4, at5, at6, at7, at8, HO.tup.injEq, HO.lst.injEq, reduceCtorEq, false_or, or_false, tyF_non, tyF_bl, tyF_int, tyF_str, exists_const, Int.reduceAdd, Int.reduceMul, Int.reduceSub, gSub, rSetL, tSl, tPart, tNoPart, rSlH, upd_same, upd_upd, rIntB, rListH, tBM, tBM0, rAppend, rClear, tPar, gTupH]
  intro D hD
  have gD := same_new hD (HO.lst [])
  refine tFor_mk ?_
  simp only [iRng1, tSeq, tNext, tRet, tRetN, tIfS, tAsg, gName, tDrop, tVar, tC, tOp, tUn, rI, rI0, rU, rEq, rNe, tTest, tB, tNot, tAnd, tOr, tAndV, tOrV, tNotV, tIf, tCB, tCall, tNil, tCons, tTup, tLst, gTup, gCons, gNil, L2.start, rIsi, rIxT, rIxL, cx_K, tyN_non, tyN_bl, tyN_int, tyN_str, isi_ii, isi_ib, isi_it, isi_il, isi_bi, isi_bb, isi_tt, isi_ni, isi_si, isi_ti, isi_li, isi_di, isi_ll, scal_ii, scal_bb, sz0, sz1, sz2, sz3, sz4, List.map_cons, List.map_nil, List.length_cons, List.length_nil, List.replicate, List.cons_append, List.nil_append, List.append_nil, List.getElem?_cons_zero, List.getElem?_cons_succ, List.set_cons_zero, List.set_cons_succ, Option.some.injEq, V.int.injEq, V.bl.injEq, V.ref.injEq, V.ty.injEq, List.cons.injEq, and_true, true_and, exists_eq_left, exists_eq_left', exists_and_left, exists_and_right, exists_eq, exists_eq', and_assoc, Nat.reduceAdd, Nat.reduceSub, Bool.not_true, Bool.not_false, Bool.false_eq_true, if_true, if_false, reduceIte, Nat.zero_add, decide_true, decide_false, selC, comp_K, tYes, Option.join_some, rIxTH, rIxLH, rLenH, rIsiF, at0, at1, at2, at3, at4, at5, at6, at7, at8, HO.tup.injEq, HO.lst.injEq, reduceCtorEq, false_or, or_false, tyF_non, tyF_bl, tyF_int, tyF_str, exists_const, Int.reduceAdd, Int.reduceMul, Int.reduceSub, gSub, rSetL, tSl, tPart, tNoPart, rSlH, upd_same, upd_upd, rIntB, rListH, tBM, tBM0, rAppend, rClear, tPar, gTupH]
  refine ⟨by decide, by decide, for_range (fun i σ H' => Same H H' ∧ ∃ (zs : List V) (o1 o2 o3 o4 o5 o6 : Option V), σ = [some (.ref l), some (.ref D), o1, o2, o3, o4, o5, o6] ∧ H' D = some (.lst zs) ∧ zs.length ≤ 4 * i ∧ LR W4H H' zs ((idxK i).flatMap (wayL (inB bs)))) ⟨gD, [], none, none, none, none, none, none, rfl, upd_same, Nat.le_refl _, .nil⟩ ?_ ?_⟩
  · rintro i σ H2 hi ⟨g2, zs, o1, o2, o3, o4, o5, o6, rfl, hD2, hz, hw⟩
    have hi : i < 25 := hi
    simp only [tSeq, tNext, tRet, tRetN, tIfS, tAsg, gName, tDrop, tVar, tC, tOp, tUn, rI, rI0, rU, rEq, rNe, tTest, tB, tNot, tAnd, tOr, tAndV, tOrV, tNotV, tIf, tCB, tCall, tNil, tCons, tTup, tLst, gTup, gCons, gNil, L2.start, rIsi, rIxT, rIxL, cx_K, tyN_non, tyN_bl, tyN_int, tyN_str, isi_ii, isi_ib, isi_it, isi_il, isi_bi, isi_bb, isi_tt, isi_ni, isi_si, isi_ti, isi_li, isi_di, isi_ll, scal_ii, scal_bb, sz0, sz1, sz2, sz3, sz4, List.map_cons, List.map_nil, List.length_cons, List.length_nil, List.replicate, List.cons_append, List.nil_append, List.append_nil, List.getElem?_cons_zero, List.getElem?_cons_succ, List.set_cons_zero, List.set_cons_succ, Option.some.injEq, V.int.injEq, V.bl.injEq, V.ref.injEq, V.ty.injEq, List.cons.injEq, and_true, true_and, exists_eq_left, exists_eq_left', exists_and_left, exists_and_right, exists_eq, exists_eq', and_assoc, Nat.reduceAdd, Nat.reduceSub, Bool.not_true, Bool.not_false, Bool.false_eq_true, if_true, if_false, reduceIte, Nat.zero_add, decide_true, decide_false, selC, comp_K, tYes, Option.join_some, rIxTH, rIxLH, rLenH, rIsiF, at0, at1, at2, at3, at4, at5, at6, at7, at8, HO.tup.injEq, HO.lst.injEq, reduceCtorEq, false_or, or_false, tyF_non, tyF_bl, tyF_int, tyF_str, exists_const, Int.reduceAdd, Int.reduceMul, Int.reduceSub, gSub, rSetL, tSl, tPart, tNoPart, rSlH, upd_same, upd_upd, rIntB, rListH, tBM, tBM0, rAppend, rClear, tPar, gTupH, Int.zero_add]
    refine ⟨by decide, ⟨by decide, by decide⟩, ?_⟩
    refine tFor_mk ?_
    simp only [iList, tSeq, tNext, tRet, tRetN, tIfS, tAsg, gName, tDrop, tVar, tC, tOp, tUn, rI, rI0, rU, rEq, rNe, tTest, tB, tNot, tAnd, tOr, tAndV, tOrV, tNotV, tIf, tCB, tCall, tNil, tCons, tTup, tLst, gTup, gCons, gNil, L2.start, rIsi, rIxT, rIxL, cx_K, tyN_non, tyN_bl, tyN_int, tyN_str, isi_ii, isi_ib, isi_it, isi_il, isi_bi, isi_bb, isi_tt, isi_ni, isi_si, isi_ti, isi_li, isi_di, isi_ll, scal_ii, scal_bb, sz0, sz1, sz2, sz3, sz4, List.map_cons, List.map_nil, List.length_cons, List.length_nil, List.replicate, List.cons_append, List.nil_append, List.append_nil, List.getElem?_cons_zero, List.getElem?_cons_succ, List.set_cons_zero, List.set_cons_succ, Option.some.injEq, V.int.injEq, V.bl.injEq, V.ref.injEq, V.ty.injEq, List.cons.injEq, and_true, true_and, exists_eq_left, exists_eq_left', exists_and_left, exists_and_right, exists_eq, exists_eq', and_assoc, Nat.reduceAdd, Nat.reduceSub, Bool.not_true, Bool.not_false, Bool.false_eq_true, if_true, if_false, reduceIte, Nat.zero_add, decide_true, decide_false, selC, comp_K, tYes, Option.join_some, rIxTH, rIxLH, rLenH, rIsiF, at0, at1, at2, at3, at4, at5, at6, at7, at8, HO.tup.injEq, HO.lst.injEq, reduceCtorEq, false_or, or_false, tyF_non, tyF_bl, tyF_int, tyF_str, exists_const, Int.reduceAdd, Int.reduceMul, Int.reduceSub, gSub, rSetL, tSl, tPart, tNoPart, rSlH, upd_same, upd_upd, rIntB, rListH, tBM, tBM0, rAppend, rClear, tPar, gTupH]
    intro p1 h1 p2 h2 p3 h3 p4 h4 L hL
    have s1 := same_new h1 (HO.tup [V.int 1, V.int 0])
    have s2 := same_new h2 (HO.tup [V.int 0, V.int 1])
    have s3 := same_new h3 (HO.tup [V.int (-1), V.int 0])
    have s4 := same_new h4 (HO.tup [V.int 0, V.int (-1)])
    have s5 := same_new hL (HO.lst [V.ref p1, V.ref p2, V.ref p3, V.ref p4])
    have hL7 := upd_same (H := upd (upd (upd (upd H2 p1 (HO.tup [V.int 1, V.int 0])) p2 (HO.tup [V.int 0, V.int 1])) p3 (HO.tup [V.int (-1), V.int 0])) p4 (HO.tup [V.int 0, V.int (-1)])) (a := L) (o := HO.lst [V.ref p1, V.ref p2, V.ref p3, V.ref p4])
    have d7 : LR D2H (upd (upd (upd (upd (upd H2 p1 (HO.tup [V.int 1, V.int 0])) p2 (HO.tup [V.int 0, V.int 1])) p3 (HO.tup [V.int (-1), V.int 0])) p4 (HO.tup [V.int 0, V.int (-1)])) L (HO.lst [V.ref p1, V.ref p2, V.ref p3, V.ref p4])) [V.ref p1, V.ref p2, V.ref p3, V.ref p4] dirs := .cons ⟨p1, rfl, s5 _ _ (s4 _ _ (s3 _ _ (s2 _ _ upd_same)))⟩ (.cons ⟨p2, rfl, s5 _ _ (s4 _ _ (s3 _ _ upd_same))⟩ (.cons ⟨p3, rfl, s5 _ _ (s4 _ _ upd_same)⟩ (.cons ⟨p4, rfl, s5 _ _ upd_same⟩ .nil)))
    have g27 := s1.trans (s2.trans (s3.trans (s4.trans s5)))
    have nL : L ≠ D := (ne_of_none (s4 _ _ (s3 _ _ (s2 _ _ (s1 _ _ hD2)))) hL).symm
    clear s1 s2 s3 s4 s5 h1 h2 h3 h4 hL
    generalize upd (upd (upd (upd (upd H2 p1 (HO.tup [V.int 1, V.int 0])) p2 (HO.tup [V.int 0, V.int 1])) p3 (HO.tup [V.int (-1), V.int 0])) p4 (HO.tup [V.int 0, V.int (-1)])) L (HO.lst [V.ref p1, V.ref p2, V.ref p3, V.ref p4]) = H7 at *
    have eta : ∀ j, (dirs.take (j + 1)).map (fun d => (⟨(i : Int) % 5, (i : Int) / 5, d.1, d.2⟩ : W4)) = (dirs.take j).map (fun d => (⟨(i : Int) % 5, (i : Int) / 5, d.1, d.2⟩ : W4)) ++ (dirs[j]?.toList).map (fun d => (⟨(i : Int) % 5, (i : Int) / 5, d.1, d.2⟩ : W4)) := fun j => by
      rw [List.take_add_one, List.map_append]
    refine ⟨⟨_, .of hL7⟩, forW_list (K := K) (a := L) (xs := [V.ref p1, V.ref p2, V.ref p3, V.ref p4]) (fun j σ H' => Same H H' ∧ TupSame H7 H' ∧ H' L = some (.lst [V.ref p1, V.ref p2, V.ref p3, V.ref p4]) ∧ ∃ (zs : List V) (o4 o5 o6 : Option V), σ = [some (.ref l), some (.ref D), some (.int i), some (.int ((i : Int) % 5)), some (.int ((i : Int) / 5)), o4, o5, o6] ∧ H' D = some (.lst zs) ∧ zs.length ≤ 4 * i + j ∧ LR W4H H' zs ((idxK i).flatMap (wayL (inB bs)) ++ ((dirs.take j).map (fun d => (⟨(i : Int) % 5, (i : Int) / 5, d.1, d.2⟩ : W4))).flatMap (wayL (inB bs)))) ⟨g2.trans g27, fun _ _ h => h, hL7, zs, o4, o5, o6, rfl, g27 _ _ hD2, hz, by rw [List.take_zero, List.map_nil, List.flatMap_nil, List.append_nil]; exact hw.ts w4h_ts (ts_same g27)⟩ (fun j σ H' _ iv => .of iv.2.2.1) ?_ ?_⟩
    · rintro j v σ H3 hj ⟨g3, t3, hL3, zs, o4, o5, o6, rfl, hD3, hz3, hw3⟩
      obtain ⟨q, d, rfl, hd, hq⟩ := d7.2 j v hj
      have hq3 : H3 q = some (.tup [.int d.1, .int d.2]) := t3 _ _ hq
      have dm := List.mem_of_getElem? hd
      have j4 : j < 4 := (List.getElem?_eq_some_iff.mp hj).1
      rw [eta, hd, Option.toList_some, List.map_cons, List.map_nil, List.flatMap_append, List.flatMap_singleton, ← List.append_assoc]
      have hx : 0 ≤ (i : Int) % 5 ∧ (i : Int) % 5 ≤ 4 := by omega
      have hy : 0 ≤ (i : Int) / 5 ∧ (i : Int) / 5 ≤ 4 := by omega
      generalize (idxK i).flatMap (wayL (inB bs)) ++ ((dirs.take j).map (fun d => (⟨(i : Int) % 5, (i : Int) / 5, d.1, d.2⟩ : W4))).flatMap (wayL (inB bs)) = ps at *
      simp only [tSeq, tNext, tRet, tRetN, tIfS, tAsg, gName, tDrop, tVar, tC, tOp, tUn, rI, rI0, rU, rEq, rNe, tTest, tB, tNot, tAnd, tOr, tAndV, tOrV, tNotV, tIf, tCB, tCall, tNil, tCons, tTup, tLst, gTup, gCons, gNil, L2.start, rIsi, rIxT, rIxL, cx_K, tyN_non, tyN_bl, tyN_int, tyN_str, isi_ii, isi_ib, isi_it, isi_il, isi_bi, isi_bb, isi_tt, isi_ni, isi_si, isi_ti, isi_li, isi_di, isi_ll, scal_ii, scal_bb, sz0, sz1, sz2, sz3, sz4, List.map_cons, List.map_nil, List.length_cons, List.length_nil, List.replicate, List.cons_append, List.nil_append, List.append_nil, List.getElem?_cons_zero, List.getElem?_cons_succ, List.set_cons_zero, List.set_cons_succ, Option.some.injEq, V.int.injEq, V.bl.injEq, V.ref.injEq, V.ty.injEq, List.cons.injEq, and_true, true_and, exists_eq_left, exists_eq_left', exists_and_left, exists_and_right, exists_eq, exists_eq', and_assoc, Nat.reduceAdd, Nat.reduceSub, Bool.not_true, Bool.not_false, Bool.false_eq_true, if_true, if_false, reduceIte, Nat.zero_add, decide_true, decide_false, selC, comp_K, tYes, Option.join_some, rIxTH, rIxLH, rLenH, rIsiF, at0, at1, at2, at3, at4, at5, at6, at7, at8, HO.tup.injEq, HO.lst.injEq, reduceCtorEq, false_or, or_false, tyF_non, tyF_bl, tyF_int, tyF_str, exists_const, Int.reduceAdd, Int.reduceMul, Int.reduceSub, gSub, rSetL, tSl, tPart, tNoPart, rSlH, upd_same, upd_upd, rIntB, rListH, tBM, tBM0, rAppend, rClear, tPar, gTupH, hq3]
      generalize (i : Int) % 5 = x at *
      generalize (i : Int) / 5 = y at *
      obtain ⟨dx, dy⟩ := d
      dsimp only at *
      refine ⟨l, bs, x, y, rfl, hb.same g3, fun H4 g4 => ?_⟩
      have hD4 := g4 _ _ hD3
      have hL4 := g4 _ _ hL3
      have t4 := ts_trans t3 (ts_same g4)
      have g04 := g3.trans g4
      have hw4 := hw3.ts w4h_ts (ts_same g4)
      have wno : ¬ (smB (inB bs) x y = false ∧ lvB (inB bs) x y dx dy = true) → wayL (inB bs) ⟨x, y, dx, dy⟩ = [] := fun n => if_neg n
      have wyes : (smB (inB bs) x y = false ∧ lvB (inB bs) x y dx dy = true) → wayL (inB bs) ⟨x, y, dx, dy⟩ = [⟨x, y, x + (farN (inB bs) x y dx dy 6 1 : Nat) * dx, y + (farN (inB bs) x y dx dy 6 1 : Nat) * dy⟩] := fun n => if_pos n
      refine ⟨_, rfl, ite2 (fun c1 => ⟨l, bs, x, y, dx, dy, rfl, hb.same g04, _, rfl, ite2 (fun c2 => ?_) (fun c2 => ?_)⟩) (fun c1 => ?_)⟩
      · have c1 : smB (inB bs) x y = false := by simpa using c1
        rw [wyes ⟨c1, c2⟩]
        have ld : dx.natAbs < 2 ^ 3 ∧ dy.natAbs < 2 ^ 3 := by
          unfold dirs at dm
          simp only [List.mem_cons, List.not_mem_nil, or_false, Prod.mk.injEq] at dm
          rcases dm with ⟨e1, e2⟩ | ⟨e1, e2⟩ | ⟨e1, e2⟩ | ⟨e1, e2⟩ <;> rw [e1, e2] <;> decide
        have e8 : (2 : Nat) ^ 3 = 8 := rfl
        refine while_at (fun σ H' => Same H4 H' ∧ ∃ f : Nat, σ = [some (V.ref l), some (V.ref D), some (V.int i), some (V.int x), some (V.int y), some (V.int dx), some (V.int dy), some (V.int f)] ∧ 1 ≤ f ∧ f ≤ 5 ∧ farN (inB bs) x y dx dy (7 - f) f = farN (inB bs) x y dx dy 6 1) (fun σ _ => (7 - getI σ 7).toNat) ⟨.refl _, 1, rfl, by omega, by omega, rfl⟩ ?_
        rintro σ H5 ⟨g5, f, rfl, f1, f5, ef⟩
        have lf : ((f : Nat) : Int).natAbs < 2 ^ 3 := by omega
        simp only [tSeq, tNext, tRet, tRetN, tIfS, tAsg, gName, tDrop, tVar, tC, tOp, tUn, rI, rI0, rU, rEq, rNe, tTest, tB, tNot, tAnd, tOr, tAndV, tOrV, tNotV, tIf, tCB, tCall, tNil, tCons, tTup, tLst, gTup, gCons, gNil, L2.start, rIsi, rIxT, rIxL, cx_K, tyN_non, tyN_bl, tyN_int, tyN_str, isi_ii, isi_ib, isi_it, isi_il, isi_bi, isi_bb, isi_tt, isi_ni, isi_si, isi_ti, isi_li, isi_di, isi_ll, scal_ii, scal_bb, sz0, sz1, sz2, sz3, sz4, List.map_cons, List.map_nil, List.length_cons, List.length_nil, List.replicate, List.cons_append, List.nil_append, List.append_nil, List.getElem?_cons_zero, List.getElem?_cons_succ, List.set_cons_zero, List.set_cons_succ, Option.some.injEq, V.int.injEq, V.bl.injEq, V.ref.injEq, V.ty.injEq, List.cons.injEq, and_true, true_and, exists_eq_left, exists_eq_left', exists_and_left, exists_and_right, exists_eq, exists_eq', and_assoc, Nat.reduceAdd, Nat.reduceSub, Bool.not_true, Bool.not_false, Bool.false_eq_true, if_true, if_false, reduceIte, Nat.zero_add, decide_true, decide_false, selC, comp_K, tYes, Option.join_some, rIxTH, rIxLH, rLenH, rIsiF, at0, at1, at2, at3, at4, at5, at6, at7, at8, HO.tup.injEq, HO.lst.injEq, reduceCtorEq, false_or, or_false, tyF_non, tyF_bl, tyF_int, tyF_str, exists_const, Int.reduceAdd, Int.reduceMul, Int.reduceSub, gSub, rSetL, tSl, tPart, tNoPart, rSlH, upd_same, upd_upd, rIntB, rListH, tBM, tBM0, rAppend, rClear, tPar, gTupH]
        refine ⟨cbig lf ld.1, cbig lf ld.2, l, bs, _, _, rfl, hb.same (g04.trans g5), fun H6 g6 => ⟨_, rfl, ite2 (fun c => ?_) (fun c => ?_)⟩⟩
        · have f4 := far_lt (inB_in bs) dm hx hy c
          refine ⟨fun σ' H' => (Same H4 H' ∧ ∃ f : Nat, σ' = [some (V.ref l), some (V.ref D), some (V.int i), some (V.int x), some (V.int y), some (V.int dx), some (V.int dy), some (V.int f)] ∧ 1 ≤ f ∧ f ≤ 5 ∧ farN (inB bs) x y dx dy (7 - f) f = farN (inB bs) x y dx dy 6 1) ∧ (7 - getI σ' 7).toNat < (7 - (f : Int)).toNat, fun σ' H' ⟨p, l⟩ => ⟨_, l, rfl, p⟩, ?_⟩
          have ev : (V.int ((f : Int) + 1)) = V.int ((f + 1 : Nat) : Int) := by rw [Int.natCast_add]; rfl
          exact ⟨⟨g5.trans g6, f + 1, by rw [ev], by omega, by omega, by rw [← ef]; exact (far_true (by omega) c).symm⟩, by show (7 - ((f : Int) + 1)).toNat < _; omega⟩
        · have c := (Bool.not_eq_true _).mp c
          have efar : farN (inB bs) x y dx dy 6 1 = f := by rw [← ef]; exact far_false (by omega) c
          have hD6 := g6 _ _ (g5 _ _ hD4)
          have hL6 := g6 _ _ (g5 _ _ hL4)
          have g56 := g5.trans g6
          refine ⟨tyV_of hD6, cbig lf ld.1, cbig lf ld.2, fun t ht => ?_⟩
          have g7 := same_new ht (HO.tup [V.int x, V.int y, V.int (x + f * dx), V.int (y + f * dy)])
          have h7 : upd H6 t (HO.tup [V.int x, V.int y, V.int (x + f * dx), V.int (y + f * dy)]) t = some (HO.tup [V.int x, V.int y, V.int (x + f * dx), V.int (y + f * dy)]) := upd_same
          generalize upd H6 t (HO.tup [V.int x, V.int y, V.int (x + f * dx), V.int (y + f * dy)]) = H8 at *
          have g48 := g56.trans g7
          have hD8 := g7 _ _ hD6
          have w8 : W4H H8 t ⟨x, y, x + (farN (inB bs) x y dx dy 6 1 : Nat) * dx, y + (farN (inB bs) x y dx dy 6 1 : Nat) * dy⟩ := by rw [efar]; exact h7
          refine ⟨zs, hD8, Nat.lt_of_le_of_lt (show zs.length ≤ 200 by omega) (by decide), same_put (g04.trans g48) hD, ts_trans t4 (ts_trans (ts_same g48) (ts_put hD8)), by rw [upd_ne nL]; exact g7 _ _ hL6, by rw [List.length_append, List.length_singleton]; omega, ?_⟩
          exact ((hw4.ts w4h_ts (ts_same g48)).snoc w8).ts w4h_ts (ts_put hD8)
      · rw [wno fun z => c2 z.2, List.append_nil]
        exact ⟨g04, t4, hL4, zs, hD4, by omega, hw4⟩
      · rw [wno fun z => c1 (by rw [z.1]; rfl), List.append_nil]
        exact ⟨g04, t4, hL4, zs, hD4, by omega, hw4⟩
    · rintro σ H3 ⟨g3, t3, hL3, zs, o4, o5, o6, rfl, hD3, hz3, hw3⟩
      refine ⟨g3, ⟨_, _, _, _, _, _, rfl⟩, zs, hD3, by simp only [List.length_cons, List.length_nil] at hz3; omega, ?_⟩
      rw [idxK_succ, List.flatMap_append]
      exact hw3
  · rintro σ H2 ⟨g2, zs, o1, o2, o3, o4, o5, o6, rfl, hD2, hz, hw⟩
    simp only [tSeq, tNext, tRet, tRetN, tIfS, tAsg, gName, tDrop, tVar, tC, tOp, tUn, rI, rI0, rU, rEq, rNe, tTest, tB, tNot, tAnd, tOr, tAndV, tOrV, tNotV, tIf, tCB, tCall, tNil, tCons, tTup, tLst, gTup, gCons, gNil, L2.start, rIsi, rIxT, rIxL, cx_K, tyN_non, tyN_bl, tyN_int, tyN_str, isi_ii, isi_ib, isi_it, isi_il, isi_bi, isi_bb, isi_tt, isi_ni, isi_si, isi_ti, isi_li, isi_di, isi_ll, scal_ii, scal_bb, sz0, sz1, sz2, sz3, sz4, List.map_cons, List.map_nil, List.length_cons, List.length_nil, List.replicate, List.cons_append, List.nil_append, List.append_nil, List.getElem?_cons_zero, List.getElem?_cons_succ, List.set_cons_zero, List.set_cons_succ, Option.some.injEq, V.int.injEq, V.bl.injEq, V.ref.injEq, V.ty.injEq, List.cons.injEq, and_true, true_and, exists_eq_left, exists_eq_left', exists_and_left, exists_and_right, exists_eq, exists_eq', and_assoc, Nat.reduceAdd, Nat.reduceSub, Bool.not_true, Bool.not_false, Bool.false_eq_true, if_true, if_false, reduceIte, Nat.zero_add, decide_true, decide_false, selC, comp_K, tYes, Option.join_some, rIxTH, rIxLH, rLenH, rIsiF, at0, at1, at2, at3, at4, at5, at6, at7, at8, HO.tup.injEq, HO.lst.injEq, reduceCtorEq, false_or, or_false, tyF_non, tyF_bl, tyF_int, tyF_str, exists_const, Int.reduceAdd, Int.reduceMul, Int.reduceSub, gSub, rSetL, tSl, tPart, tNoPart, rSlH, upd_same, upd_upd, rIntB, rListH, tBM, tBM0, rAppend, rClear, tPar, gTupH]
    exact k D zs H2 hD g2 hD2 hw
def Q4H (H : Hp) (p : Addr) (q : Int × Int × Int × Int) : Prop := H p = some (.tup [.int q.1, .int q.2.1, .int q.2.2.1, .int q.2.2.2])
theorem q4h_ts : ∀ (H H' : Hp) (p : Addr) (q : Int × Int × Int × Int), TupSame H H' → Q4H H p q → Q4H H' p q := fun _ _ _ _ g h => g _ _ h
theorem at_far {m : Int} (h0 : 0 ≤ m) (h5 : m < 5) : ∃ f : Int, atI [V.int 1, V.int 1, V.int 1, V.int 1000003, V.int (10 ^ Int.toNat 18 + 9)] m = some (.int f) ∧ 0 ≤ f ∧ f ≤ 10 ^ 18 + 9 := by
  rcases (by omega : m = 0 ∨ m = 1 ∨ m = 2 ∨ m = 3 ∨ m = 4) with rfl | rfl | rfl | rfl | rfl
  · exact ⟨_, at0, by decide, by decide⟩
  · exact ⟨_, at1, by decide, by decide⟩
  · exact ⟨_, at2, by decide, by decide⟩
  · exact ⟨_, at3, by decide, by decide⟩
  · exact ⟨_, at4, by decide, by decide⟩
theorem at_m {m : Int} (h0 : 0 ≤ m) (h5 : m < 5) : ∃ f : Int, atI [V.int 1, V.int 1, V.int 2, V.int 3, V.int 6] m = some (.int f) ∧ (f = 1 ∨ f = 2 ∨ f = 3 ∨ f = 6) := by
  rcases (by omega : m = 0 ∨ m = 1 ∨ m = 2 ∨ m = 3 ∨ m = 4) with rfl | rfl | rfl | rfl | rfl
  · exact ⟨_, at0, by decide⟩
  · exact ⟨_, at1, by decide⟩
  · exact ⟨_, at2, by decide⟩
  · exact ⟨_, at3, by decide⟩
  · exact ⟨_, at4, by decide⟩
theorem ok_law_map (T : Txt K mg ad fd) : FnOk P w K mg base CX0 1 (ad 17) (fd 17) ["_law_cell"] sp_map := by
  refine T.law_map.fn.ok sc_law_map (fun vs H Q E h => ?_) (fun cdv A outer s H vs Q E hr h => ?_)
  · obtain ⟨c, rfl, _⟩ := h
    rfl
  obtain ⟨c, rfl, k⟩ := h
  obtain ⟨tl, htl, hk⟩ : ∃ tl, PSs (cxOf CX0 P w K mg base ["_law_cell", "_law_some", "_law_far", "_law_right", "_law_high"] "_law_map" (defScope s_law_map) (ad 17) cdv A outer s H E).nox ((defBody s_law_map).drop 2) tl ∧ ∀ (S : Addr) (ys : List V) (H1 : Hp), Same H H1 → H1 S = some (.lst ys) → LR Q4H H1 ys quads →
      tl { nx := fun _ H' => Q .non H', rt := Q } [some (.int c), some (.ref S), none, none, none] H1 := by
    have qpss4 := @pss4
    have qps_set := @ps_set
    have qpe_ix := @pe_ix
    have qpe_lst := @pe_lst
    have qpa5 := @pa5
    have qpe_int := @pe_int
    have qpe_op := @pe_op
    have qpv := @pv
    have qps_ret := @ps_ret
    have qpe_tup := @pe_tup
    have qpa3 := @pa3
    generalize @L2.PE = QE, @L2.PT = QT, @L2.PW = QW, @L2.PA = QA, @L2.PS = QS, @L2.PSs = QSs, @L2.PG = QG, @L2.PGs = QGs, @L2.PI = QI, @L2.PO = QO, @L2.PIf = QIf at qpss4 qps_set qpe_ix qpe_lst qpa5 qpe_int qpe_op qpv qps_ret qpe_tup qpa3 ⊢
    refine ⟨_,
    (qpss4
      (qps_set (i := 2) sc_law_map.nd rfl (Or.inl rfl) (qpe_ix ix_listH (qpe_lst (qpa5 qpe_int ns_Constant qpe_int ns_Constant qpe_int ns_Constant qpe_int ns_Constant (qpe_op op_add (qpe_op op_pow qpe_int qpe_int) qpe_int) ns_BinOp)) (qpe_op op_mod (qpe_op op_fdiv (qpv 0) qpe_int) qpe_int) (fun _ _ => rfl)))
      (qps_set (i := 3) sc_law_map.nd rfl (Or.inl rfl) (qpe_op op_mulB (qpe_op op_sub (qpe_op op_mod (qpe_op op_fdiv (qpv 0) qpe_int) qpe_int) qpe_int) (qpv 2)))
      (qps_set (i := 4) sc_law_map.nd rfl (Or.inl rfl) (qpe_op op_mulB (qpe_op op_sub (qpe_op op_mod (qpe_op op_fdiv (qpv 0) qpe_int) qpe_int) qpe_int) (qpv 2)))
      (qps_ret (qpe_op op_catT (qpe_ix ix_listH (qpv 1) (qpe_op op_mod (qpv 0) qpe_int) (fun _ _ => rfl)) (qpe_tup (qpa3 (qpv 3) ns_Name (qpv 4) ns_Name (qpe_ix ix_listH (qpe_lst (qpa5 qpe_int ns_Constant qpe_int ns_Constant qpe_int ns_Constant qpe_int ns_Constant qpe_int ns_Constant)) (qpe_op op_mod (qpe_op op_fdiv (qpv 0) qpe_int) qpe_int) (fun _ _ => rfl)) ns_Subscript)))))
      , fun S ys H1 g1 hS hq => ?_⟩
    clear  qpss4 qps_set qpe_ix qpe_lst qpa5 qpe_int qpe_op qpv qps_ret qpe_tup qpa3 QE QT QW QA QS QSs QG QGs QI QO QIf
    simp only [tSeq, tNext, tRet, tRetN, tIfS, tAsg, gName, tDrop, tVar, tC, tOp, tUn, rI, rI0, rU, rEq, rNe, tTest, tB, tNot, tAnd, tOr, tAndV, tOrV, tNotV, tIf, tCB, tCall, tNil, tCons, tTup, tLst, gTup, gCons, gNil, L2.start, rIsi, rIxT, rIxL, cx_K, tyN_non, tyN_bl, tyN_int, tyN_str, isi_ii, isi_ib, isi_it, isi_il, isi_bi, isi_bb, isi_tt, isi_ni, isi_si, isi_ti, isi_li, isi_di, isi_ll, scal_ii, scal_bb, sz0, sz1, sz2, sz3, sz4, List.map_cons, List.map_nil, List.length_cons, List.length_nil, List.replicate, List.cons_append, List.nil_append, List.append_nil, List.getElem?_cons_zero, List.getElem?_cons_succ, List.set_cons_zero, List.set_cons_succ, Option.some.injEq, V.int.injEq, V.bl.injEq, V.ref.injEq, V.ty.injEq, List.cons.injEq, and_true, true_and, exists_eq_left, exists_eq_left', exists_and_left, exists_and_right, exists_eq, exists_eq', and_assoc, Nat.reduceAdd, Nat.reduceSub, Bool.not_true, Bool.not_false, Bool.false_eq_true, if_true, if_false, reduceIte, Nat.zero_add, decide_true, decide_false, selC, comp_K, tYes, Option.join_some, rIxTH, rIxLH, rLenH, rIsiF, at0, at1, at2, at3, at4, at5, at6, at7, at8, HO.tup.injEq, HO.lst.injEq, reduceCtorEq, false_or, or_false, tyF_non, tyF_bl, tyF_int, tyF_str, exists_const, Int.reduceAdd, Int.reduceMul, Int.reduceSub, gSub, rSetL, tSl, tPart, tNoPart, rSlH, upd_same, upd_upd, rIntB, rListH, tBM, tBM0, rAppend, rClear, tPar, gTupH, hS]
    have e5 : (5 : Nat) ≤ sizeLine := by decide
    obtain ⟨f, hf, f0, f1⟩ := at_far (Int.emod_nonneg (c / 8) (show (5 : Int) ≠ 0 by decide)) (Int.emod_lt_of_pos (c / 8) (show (0 : Int) < 5 by decide))
    obtain ⟨m, hm, m1⟩ := at_m (Int.emod_nonneg (c / 6760) (show (5 : Int) ≠ 0 by decide)) (Int.emod_lt_of_pos (c / 6760) (show (0 : Int) < 5 by decide))
    have e64 : (2 : Nat) ^ 64 = 18446744073709551616 := rfl
    have e18 : (10 : Int) ^ 18 = 1000000000000000000 := rfl
    have e4 : (2 : Nat) ^ 4 = 16 := rfl
    have lf : f.natAbs < 2 ^ 64 := by omega
    have r1 : (c / 40 % 13 - 6).natAbs < 2 ^ 4 := by omega
    have r2 : (c / 520 % 13 - 6).natAbs < 2 ^ 4 := by omega
    refine ⟨⟨by decide, by decide, by decide⟩, e5, fun p hp => ⟨⟨by decide, by decide⟩, by decide, _, hf, ⟨by decide, by decide⟩, by decide, f, rfl, cbig r1 lf, ⟨by decide, by decide⟩, by decide, f, rfl, cbig r2 lf, by decide, ?_⟩⟩
    have gp := same_new hp (HO.lst [V.int 1, V.int 1, V.int 1, V.int 1000003, V.int (10 ^ Int.toNat 18 + 9)])
    have hS2 := gp _ _ hS
    have hq2 := hq.ts q4h_ts (ts_same gp)
    generalize upd H1 p (HO.lst [V.int 1, V.int 1, V.int 1, V.int 1000003, V.int (10 ^ Int.toNat 18 + 9)]) = H2 at *
    have c8 : c % 8 = (((c % 8).toNat : Nat) : Int) := by omega
    have yl : ys.length = 8 := hq.1
    obtain ⟨t, q, et, eq, ht⟩ := hq2.at (j := (c % 8).toNat) (by omega)
    have ea := atI_nat et
    rw [← c8] at ea
    refine ⟨ys, hS2, _, ea, e5, fun p1 hp1 => ⟨⟨by decide, by decide⟩, by decide, _, hm, fun p2 hp2 => ?_⟩⟩
    have g1' := same_new hp1 (HO.lst [V.int 1, V.int 1, V.int 2, V.int 3, V.int 6])
    have ht2 := q4h_ts _ _ _ _ (ts_same g1') ht
    generalize upd H2 p1 (HO.lst [V.int 1, V.int 1, V.int 2, V.int 3, V.int 6]) = H3 at *
    have g2' := same_new hp2 (HO.tup [V.int ((c / 40 % 13 - 6) * f), V.int ((c / 520 % 13 - 6) * f), V.int m])
    have h2 : upd H3 p2 (HO.tup [V.int ((c / 40 % 13 - 6) * f), V.int ((c / 520 % 13 - 6) * f), V.int m]) p2 = some (HO.tup [V.int ((c / 40 % 13 - 6) * f), V.int ((c / 520 % 13 - 6) * f), V.int m]) := upd_same
    have ht3 := q4h_ts _ _ _ _ (ts_same g2') ht2
    generalize upd H3 p2 (HO.tup [V.int ((c / 40 % 13 - 6) * f), V.int ((c / 520 % 13 - 6) * f), V.int m]) = H4 at *
    refine ⟨t, p2, _, _, rfl, rfl, .of ht3, .of h2, by simp, (show (7 : Nat) ≤ sizeLine from by decide), (fun z => (nomatch z)), fun _ p3 hp3 => ?_⟩
    have sz : ∀ r : Int, r.natAbs < 2 ^ 4 → (r * f).natAbs < 2 ^ 70 := fun r hr => lt_mono (mul_lt hr lf) (by decide)
    exact k p3 ⟨q.1, q.2.1, q.2.2.1, q.2.2.2, (c / 40 % 13 - 6) * f, (c / 520 % 13 - 6) * f, m⟩ _ (g1.trans (gp.trans (g1'.trans (g2'.trans (same_new hp3 _))))) ⟨upd_same, ⟨List.mem_of_getElem? eq, m1, sz _ r1, sz _ r2⟩⟩
  have qpss_cons := @pss_cons
  have qps_set := @ps_set
  have qpe_lst := @pe_lst
  have qpa4 := @pa4
  have qpe_tup := @pe_tup
  have qpe_int := @pe_int
  have qpe_un := @pe_un
  have qpe_op := @pe_op
  have qpv := @pv
  generalize @L2.PE = QE, @L2.PT = QT, @L2.PW = QW, @L2.PA = QA, @L2.PS = QS, @L2.PSs = QSs, @L2.PG = QG, @L2.PGs = QGs, @L2.PI = QI, @L2.PO = QO, @L2.PIf = QIf at qpss_cons qps_set qpe_lst qpa4 qpe_tup qpe_int qpe_un qpe_op qpv htl ⊢
  refine ⟨_,
    (qpss_cons (qps_set (i := 1) sc_law_map.nd rfl (Or.inl rfl) (qpe_lst (qpa4 (qpe_tup (qpa4 qpe_int ns_Constant qpe_int ns_Constant qpe_int ns_Constant qpe_int ns_Constant)) ns_Tuple (qpe_tup (qpa4 qpe_int ns_Constant qpe_int ns_Constant qpe_int ns_Constant qpe_int ns_Constant)) ns_Tuple (qpe_tup (qpa4 qpe_int ns_Constant qpe_int ns_Constant (qpe_un un_neg qpe_int) ns_UnaryOp qpe_int ns_Constant)) ns_Tuple (qpe_tup (qpa4 qpe_int ns_Constant (qpe_un un_neg qpe_int) ns_UnaryOp qpe_int ns_Constant qpe_int ns_Constant)) ns_Tuple)))
      (qpss_cons (qps_set (i := 1) sc_law_map.nd rfl (Or.inl rfl) (qpe_op op_cat (qpv 1) (qpe_lst (qpa4 (qpe_tup (qpa4 qpe_int ns_Constant qpe_int ns_Constant qpe_int ns_Constant qpe_int ns_Constant)) ns_Tuple (qpe_tup (qpa4 qpe_int ns_Constant (qpe_un un_neg qpe_int) ns_UnaryOp qpe_int ns_Constant qpe_int ns_Constant)) ns_Tuple (qpe_tup (qpa4 qpe_int ns_Constant qpe_int ns_Constant qpe_int ns_Constant qpe_int ns_Constant)) ns_Tuple (qpe_tup (qpa4 (qpe_un un_neg qpe_int) ns_UnaryOp qpe_int ns_Constant qpe_int ns_Constant (qpe_un un_neg qpe_int) ns_UnaryOp)) ns_Tuple))))
      htl))
    , ?_⟩
  clear htl qpss_cons qps_set qpe_lst qpa4 qpe_tup qpe_int qpe_un qpe_op qpv QE QT QW QA QS QSs QG QGs QI QO QIf
  simp only [tSeq, tNext, tRet, tRetN, tIfS, tAsg, gName, tDrop, tVar, tC, tOp, tUn, rI, rI0, rU, rEq, rNe, tTest, tB, tNot, tAnd, tOr, tAndV, tOrV, tNotV, tIf, tCB, tCall, tNil, tCons, tTup, tLst, gTup, gCons, gNil, L2.start, rIsi, rIxT, rIxL, cx_K, tyN_non, tyN_bl, tyN_int, tyN_str, isi_ii, isi_ib, isi_it, isi_il, isi_bi, isi_bb, isi_tt, isi_ni, isi_si, isi_ti, isi_li, isi_di, isi_ll, scal_ii, scal_bb, sz0, sz1, sz2, sz3, sz4, List.map_cons, List.map_nil, List.length_cons, List.length_nil, List.replicate, List.cons_append, List.nil_append, List.append_nil, List.getElem?_cons_zero, List.getElem?_cons_succ, List.set_cons_zero, List.set_cons_succ, Option.some.injEq, V.int.injEq, V.bl.injEq, V.ref.injEq, V.ty.injEq, List.cons.injEq, and_true, true_and, exists_eq_left, exists_eq_left', exists_and_left, exists_and_right, exists_eq, exists_eq', and_assoc, Nat.reduceAdd, Nat.reduceSub, Bool.not_true, Bool.not_false, Bool.false_eq_true, if_true, if_false, reduceIte, Nat.zero_add, decide_true, decide_false, selC, comp_K, tYes, Option.join_some, rIxTH, rIxLH, rLenH, rIsiF, at0, at1, at2, at3, at4, at5, at6, at7, at8, HO.tup.injEq, HO.lst.injEq, reduceCtorEq, false_or, or_false, tyF_non, tyF_bl, tyF_int, tyF_str, exists_const, Int.reduceAdd, Int.reduceMul, Int.reduceSub, gSub, rSetL, tSl, tPart, tNoPart, rSlH, upd_same, upd_upd, rIntB, rListH, tBM, tBM0, rAppend, rClear, tPar, gTupH]
  have z0_0 : LR Q4H H [] [] := .nil
  intro p1 hp1
  have s1 := same_new hp1 (HO.tup [V.int 1, V.int 0, V.int 0, V.int 1])
  have u1 : upd H p1 (HO.tup [V.int 1, V.int 0, V.int 0, V.int 1]) p1 = some (HO.tup [V.int 1, V.int 0, V.int 0, V.int 1]) := upd_same
  generalize upd H p1 (HO.tup [V.int 1, V.int 0, V.int 0, V.int 1]) = K1 at *
  have z0_1 := (z0_0.ts q4h_ts (ts_same s1)).snoc (p := p1) (a := (1, 0, 0, 1)) u1
  intro p2 hp2
  have s2 := same_new hp2 (HO.tup [V.int 2, V.int 1, V.int 0, V.int 1])
  have u2 : upd K1 p2 (HO.tup [V.int 2, V.int 1, V.int 0, V.int 1]) p2 = some (HO.tup [V.int 2, V.int 1, V.int 0, V.int 1]) := upd_same
  generalize upd K1 p2 (HO.tup [V.int 2, V.int 1, V.int 0, V.int 1]) = K2 at *
  have z0_2 := (z0_1.ts q4h_ts (ts_same s2)).snoc (p := p2) (a := (2, 1, 0, 1)) u2
  intro p3 hp3
  have s3 := same_new hp3 (HO.tup [V.int 1, V.int 1, V.int (-1), V.int 1])
  have u3 : upd K2 p3 (HO.tup [V.int 1, V.int 1, V.int (-1), V.int 1]) p3 = some (HO.tup [V.int 1, V.int 1, V.int (-1), V.int 1]) := upd_same
  generalize upd K2 p3 (HO.tup [V.int 1, V.int 1, V.int (-1), V.int 1]) = K3 at *
  have z0_3 := (z0_2.ts q4h_ts (ts_same s3)).snoc (p := p3) (a := (1, 1, -1, 1)) u3
  intro p4 hp4
  have s4 := same_new hp4 (HO.tup [V.int 3, V.int (-1), V.int 1, V.int 2])
  have u4 : upd K3 p4 (HO.tup [V.int 3, V.int (-1), V.int 1, V.int 2]) p4 = some (HO.tup [V.int 3, V.int (-1), V.int 1, V.int 2]) := upd_same
  generalize upd K3 p4 (HO.tup [V.int 3, V.int (-1), V.int 1, V.int 2]) = K4 at *
  have z0_4 := (z0_3.ts q4h_ts (ts_same s4)).snoc (p := p4) (a := (3, -1, 1, 2)) u4
  intro L0 hL0
  have s5 := same_new hL0 (HO.lst [V.ref p1, V.ref p2, V.ref p3, V.ref p4])
  have u5 : upd K4 L0 (HO.lst [V.ref p1, V.ref p2, V.ref p3, V.ref p4]) L0 = some (HO.lst [V.ref p1, V.ref p2, V.ref p3, V.ref p4]) := upd_same
  generalize upd K4 L0 (HO.lst [V.ref p1, V.ref p2, V.ref p3, V.ref p4]) = K5 at *
  have w_5 := z0_4.ts q4h_ts (ts_same s5)
  have v_5 := u5
  have z1_0 : LR Q4H K5 [] [] := .nil
  intro p5 hp5
  have s6 := same_new hp5 (HO.tup [V.int 1, V.int 2, V.int 0, V.int 1])
  have u6 : upd K5 p5 (HO.tup [V.int 1, V.int 2, V.int 0, V.int 1]) p5 = some (HO.tup [V.int 1, V.int 2, V.int 0, V.int 1]) := upd_same
  generalize upd K5 p5 (HO.tup [V.int 1, V.int 2, V.int 0, V.int 1]) = K6 at *
  have z1_1 := (z1_0.ts q4h_ts (ts_same s6)).snoc (p := p5) (a := (1, 2, 0, 1)) u6
  have w_6 := w_5.ts q4h_ts (ts_same s6)
  have v_6 := s6 _ _ v_5
  intro p6 hp6
  have s7 := same_new hp6 (HO.tup [V.int 0, V.int (-1), V.int 1, V.int 0])
  have u7 : upd K6 p6 (HO.tup [V.int 0, V.int (-1), V.int 1, V.int 0]) p6 = some (HO.tup [V.int 0, V.int (-1), V.int 1, V.int 0]) := upd_same
  generalize upd K6 p6 (HO.tup [V.int 0, V.int (-1), V.int 1, V.int 0]) = K7 at *
  have z1_2 := (z1_1.ts q4h_ts (ts_same s7)).snoc (p := p6) (a := (0, -1, 1, 0)) u7
  have w_7 := w_6.ts q4h_ts (ts_same s7)
  have v_7 := s7 _ _ v_6
  intro p7 hp7
  have s8 := same_new hp7 (HO.tup [V.int 5, V.int 3, V.int 3, V.int 2])
  have u8 : upd K7 p7 (HO.tup [V.int 5, V.int 3, V.int 3, V.int 2]) p7 = some (HO.tup [V.int 5, V.int 3, V.int 3, V.int 2]) := upd_same
  generalize upd K7 p7 (HO.tup [V.int 5, V.int 3, V.int 3, V.int 2]) = K8 at *
  have z1_3 := (z1_2.ts q4h_ts (ts_same s8)).snoc (p := p7) (a := (5, 3, 3, 2)) u8
  have w_8 := w_7.ts q4h_ts (ts_same s8)
  have v_8 := s8 _ _ v_7
  intro p8 hp8
  have s9 := same_new hp8 (HO.tup [V.int (-1), V.int 0, V.int 2, V.int (-3)])
  have u9 : upd K8 p8 (HO.tup [V.int (-1), V.int 0, V.int 2, V.int (-3)]) p8 = some (HO.tup [V.int (-1), V.int 0, V.int 2, V.int (-3)]) := upd_same
  generalize upd K8 p8 (HO.tup [V.int (-1), V.int 0, V.int 2, V.int (-3)]) = K9 at *
  have z1_4 := (z1_3.ts q4h_ts (ts_same s9)).snoc (p := p8) (a := (-1, 0, 2, -3)) u9
  have w_9 := w_8.ts q4h_ts (ts_same s9)
  have v_9 := s9 _ _ v_8
  intro L1 hL1
  have s10 := same_new hL1 (HO.lst [V.ref p5, V.ref p6, V.ref p7, V.ref p8])
  have u10 : upd K9 L1 (HO.lst [V.ref p5, V.ref p6, V.ref p7, V.ref p8]) L1 = some (HO.lst [V.ref p5, V.ref p6, V.ref p7, V.ref p8]) := upd_same
  generalize upd K9 L1 (HO.lst [V.ref p5, V.ref p6, V.ref p7, V.ref p8]) = K10 at *
  have w_10 := w_9.ts q4h_ts (ts_same s10)
  have v_10 := s10 _ _ v_9
  have y := z1_4.ts q4h_ts (ts_same s10)
  have gg := s1.trans (s2.trans (s3.trans (s4.trans (s5.trans (s6.trans (s7.trans (s8.trans (s9.trans (s10)))))))))
  refine ⟨L0, L1, _, _, rfl, rfl, v_10, u10, (show (8 : Nat) ≤ sizeLine from by decide), fun S hS => hk S _ _ (gg.trans (same_new hS _)) upd_same ((w_10.app y).ts q4h_ts (ts_same (same_new hS _)))⟩
def kQ (r : Q3) : List Key := [.inl r.x, .inl r.y, .inl r.w]
theorem kQ_inj {p q : Q3} (h : kQ p = kQ q) : p = q := by
  obtain ⟨x, y, w⟩ := p
  obtain ⟨x', y', w'⟩ := q
  unfold kQ at h
  cases h
  rfl
theorem qh_ts : ∀ (H H' : Hp) (p : Addr) (r : Q3), TupSame H H' → QH H p r → QH H' p r := fun _ _ _ _ g h => g _ _ h
def kyQ (g : Int) (r : Q3) : Int × Int := (r.x * (g * g) / r.w, r.y * (g * g) / r.w)
def KyOk (H : Hp) (kvs : List (List Key × V)) (g : Int) (ps : List Q3) : Prop := ∀ p, p ∈ ps → ∃ b, valV kvs (kQ p) = some (.ref b) ∧ H b = some (.tup [.int (kyQ g p).1, .int (kyQ g p).2])
theorem KyOk.ts {H H' : Hp} {kvs : List (List Key × V)} {g : Int} {ps : List Q3} (h : KyOk H kvs g ps) (t : TupSame H H') : KyOk H' kvs g ps := fun p hp => by
  obtain ⟨b, e, hb⟩ := h p hp
  exact ⟨b, e, t _ _ hb⟩
def sp_okeys : Sp := fun vs H Q _ => ∃ (l : Addr) (ys : List V) (ps : List Q3), vs = [.ref l] ∧ H l = some (.lst ys) ∧ ys.length ≤ 1000 ∧ LR QH H ys ps ∧ (∀ p, p ∈ ps → 0 < p.w ∧ p.x.natAbs < 2 ^ 80 ∧ p.y.natAbs < 2 ^ 80 ∧ p.w.natAbs < 2 ^ 80) ∧
  ∀ d kvs g H', Same H H' → H' d = some (.dT kvs) → 0 < g → (∀ p, p ∈ ps → p.w ≤ g) → KyOk H' kvs g ps → Q (.ref d) H'
theorem ts_putD {H : Hp} {D : Addr} {kvs : List (List Key × V)} {o : HO} (h : H D = some (.dT kvs)) : TupSame H (upd H D o) := fun b xs q => by
  rw [upd_ne (fun z => by rw [z, h] at q; cases q)]
  exact q
theorem ok_order_keys (T : Txt K mg ad fd) : FnOk P w K mg base CX0 1 (ad 4) (fd 4) ["points"] sp_okeys := by
  refine T.order_keys.fn.ok sc_order_keys (fun vs H Q E h => ?_) (fun cdv A outer s H vs Q E hr h => ?_)
  · obtain ⟨l, ys, ps, rfl, _⟩ := h
    rfl
  obtain ⟨l, ys, ps, rfl, hl, hn, hp, hs, k⟩ := h
  have qpss5 := @pss5
  have qps_set := @ps_set
  have qpe_callBK := @pe_callBK
  have qpa1 := @pa1
  have qpe_comp := @pe_comp
  unfold L2.CompBody at qpe_comp
  have qpi_list := @pi_list
  have qpv := @pv
  have qpg_name := @pg_name
  have qpif_nil := @pif_nil
  have qpe_ix := @pe_ix
  have qpe_int := @pe_int
  have qpk_cons := @pk_cons
  have qpk_nil := @pk_nil
  have qpe_op := @pe_op
  have qpe_dnewT := @pe_dnewT
  have qps_for := @ps_for
  have qpss_one := @pss_one
  have qps_if := @ps_if
  have qpt_cmp := @pt_cmp
  have qpc_dnotin := @pc_dnotin
  have qps_dput := @ps_dput
  have qpe_tup := @pe_tup
  have qpa2 := @pa2
  have qpss_nil := @pss_nil
  have qps_ret := @ps_ret
  generalize @L2.PE = QE, @L2.PT = QT, @L2.PW = QW, @L2.PA = QA, @L2.PS = QS, @L2.PSs = QSs, @L2.PG = QG, @L2.PGs = QGs, @L2.PI = QI, @L2.PO = QO, @L2.PIf = QIf, @L2.PC = QC, @L2.PK = QK at qpss5 qps_set qpe_callBK qpa1 qpe_comp qpi_list qpv qpg_name qpif_nil qpe_ix qpe_int qpk_cons qpk_nil qpe_op qpe_dnewT qps_for qpss_one qps_if qpt_cmp qpc_dnotin qps_dput qpe_tup qpa2 qpss_nil qps_ret ⊢
  refine ⟨_,
    (qpss5
      (qps_set (i := 1) sc_order_keys.nd rfl (Or.inl rfl) (qpe_callBK (call_maxD rfl) rfl T.b_max bt_max (qpa1 (qpe_comp (dsc := defScope s_order_keys) (N := ["points", "greatest", "scale", "keys", "P"]) (own := ["P"]) (ix := []) rfl rfl rfl ⟨rfl, by decide +kernel, by decide +kernel, by decide +kernel, by decide +kernel⟩ (qpi_list (qpv 0)) (fun cl C fp s2 H2 xe => ⟨(qpg_name (i := 0) (show List.Nodup (["P"] : List Str) from by decide +kernel) rfl (Or.inl rfl)), qpif_nil, (qpe_ix ix_tupH (qpv 0) qpe_int (fun _ _ => rfl))⟩)) ns_ListComp) (qpk_cons qpe_int qpk_nil)))
      (qps_set (i := 2) sc_order_keys.nd rfl (Or.inl rfl) (qpe_op op_mulB (qpv 1) (qpv 1)))
      (qps_set (i := 3) sc_order_keys.nd rfl (Or.inl rfl) qpe_dnewT)
      (qps_for PassesOwn.never rfl (qpi_list (qpv 0)) (qpg_name (i := 4) sc_order_keys.nd rfl (Or.inl rfl)) (qpss_one (qps_if (qpt_cmp (qpc_dnotin (hu_of hr) (qpv 4) (qpv 3))) (qpss_one (qps_dput (hu_of hr) (qpv 3) (qpv 4) (qpe_tup (qpa2 (qpe_op op_fdivB (qpe_op op_mulB (qpe_ix ix_tupH (qpv 4) qpe_int (fun _ _ => rfl)) (qpv 2)) (qpe_ix ix_tupH (qpv 4) qpe_int (fun _ _ => rfl))) ns_BinOp (qpe_op op_fdivB (qpe_op op_mulB (qpe_ix ix_tupH (qpv 4) qpe_int (fun _ _ => rfl)) (qpv 2)) (qpe_ix ix_tupH (qpv 4) qpe_int (fun _ _ => rfl))) ns_BinOp)) rfl)) qpss_nil)))
      (qps_ret (qpv 3)))
    , ?_⟩
  clear  qpss5 qps_set qpe_callBK qpa1 qpe_comp qpi_list qpv qpg_name qpif_nil qpe_ix qpe_int qpk_cons qpk_nil qpe_op qpe_dnewT qps_for qpss_one qps_if qpt_cmp qpc_dnotin qps_dput qpe_tup qpa2 qpss_nil qps_ret QE QT QW QA QS QSs QG QGs QI QO QIf QC QK
  simp only [tSeq, tNext, tRet, tRetN, tIfS, tAsg, gName, tDrop, tVar, tC, tOp, tUn, rI, rI0, rU, rEq, rNe, tTest, tB, tNot, tAnd, tOr, tAndV, tOrV, tNotV, tIf, tCB, tCall, tNil, tCons, tTup, tLst, gTup, gCons, gNil, L2.start, rIsi, rIxT, rIxL, cx_K, tyN_non, tyN_bl, tyN_int, tyN_str, isi_ii, isi_ib, isi_it, isi_il, isi_bi, isi_bb, isi_tt, isi_ni, isi_si, isi_ti, isi_li, isi_di, isi_ll, scal_ii, scal_bb, sz0, sz1, sz2, sz3, sz4, List.map_cons, List.map_nil, List.length_cons, List.length_nil, List.replicate, List.cons_append, List.nil_append, List.append_nil, List.getElem?_cons_zero, List.getElem?_cons_succ, List.set_cons_zero, List.set_cons_succ, Option.some.injEq, V.int.injEq, V.bl.injEq, V.ref.injEq, V.ty.injEq, List.cons.injEq, and_true, true_and, exists_eq_left, exists_eq_left', exists_and_left, exists_and_right, exists_eq, exists_eq', and_assoc, Nat.reduceAdd, Nat.reduceSub, Bool.not_true, Bool.not_false, Bool.false_eq_true, if_true, if_false, reduceIte, Nat.zero_add, decide_true, decide_false, selC, comp_K, tYes, Option.join_some, rIxTH, rIxLH, rLenH, rIsiF, at0, at1, at2, at3, at4, at5, at6, at7, at8, HO.tup.injEq, HO.lst.injEq, reduceCtorEq, false_or, or_false, tyF_non, tyF_bl, tyF_int, tyF_str, exists_const, Int.reduceAdd, Int.reduceMul, Int.reduceSub, gSub, rSetL, tSl, tPart, tNoPart, rSlH, upd_same, upd_upd, rIntB, rListH, tBM, tBM0, rAppend, rClear, tPar, gTupH, tCBK]
  refine tComp_mk ?_
  simp only [iList, tSeq, tNext, tRet, tRetN, tIfS, tAsg, gName, tDrop, tVar, tC, tOp, tUn, rI, rI0, rU, rEq, rNe, tTest, tB, tNot, tAnd, tOr, tAndV, tOrV, tNotV, tIf, tCB, tCall, tNil, tCons, tTup, tLst, gTup, gCons, gNil, L2.start, rIsi, rIxT, rIxL, cx_K, tyN_non, tyN_bl, tyN_int, tyN_str, isi_ii, isi_ib, isi_it, isi_il, isi_bi, isi_bb, isi_tt, isi_ni, isi_si, isi_ti, isi_li, isi_di, isi_ll, scal_ii, scal_bb, sz0, sz1, sz2, sz3, sz4, List.map_cons, List.map_nil, List.length_cons, List.length_nil, List.replicate, List.cons_append, List.nil_append, List.append_nil, List.getElem?_cons_zero, List.getElem?_cons_succ, List.set_cons_zero, List.set_cons_succ, Option.some.injEq, V.int.injEq, V.bl.injEq, V.ref.injEq, V.ty.injEq, List.cons.injEq, and_true, true_and, exists_eq_left, exists_eq_left', exists_and_left, exists_and_right, exists_eq, exists_eq', and_assoc, Nat.reduceAdd, Nat.reduceSub, Bool.not_true, Bool.not_false, Bool.false_eq_true, if_true, if_false, reduceIte, Nat.zero_add, decide_true, decide_false, selC, comp_K, tYes, Option.join_some, rIxTH, rIxLH, rLenH, rIsiF, at0, at1, at2, at3, at4, at5, at6, at7, at8, HO.tup.injEq, HO.lst.injEq, reduceCtorEq, false_or, or_false, tyF_non, tyF_bl, tyF_int, tyF_str, exists_const, Int.reduceAdd, Int.reduceMul, Int.reduceSub, gSub, rSetL, tSl, tPart, tNoPart, rSlH, upd_same, upd_upd, rIntB, rListH, tBM, tBM0, rAppend, rClear, tPar, gTupH]
  refine ⟨⟨_, .of hl⟩, fun D hD => ?_⟩
  refine comp_list (xs := ys) (fun i zs H' => Same H H' ∧ H' D = some (.lst zs) ∧ zs = ((ps.take i).map fun p => V.int p.w)) ⟨same_new hD _, upd_same, by rw [List.take_zero]; rfl⟩ (fun i zs H' p => .of (p.1 _ _ hl)) ?_ ?_
  · rintro i zs H1 v hi hv ⟨g1, hD1, ez⟩
    obtain ⟨p, r, rfl, hr', hq⟩ := hp.2 i v hv
    have hq1 : H1 p = some (.tup [.int r.x, .int r.y, .int r.w]) := g1 _ _ hq
    simp only [tSeq, tNext, tRet, tRetN, tIfS, tAsg, gName, tDrop, tVar, tC, tOp, tUn, rI, rI0, rU, rEq, rNe, tTest, tB, tNot, tAnd, tOr, tAndV, tOrV, tNotV, tIf, tCB, tCall, tNil, tCons, tTup, tLst, gTup, gCons, gNil, L2.start, rIsi, rIxT, rIxL, cx_K, tyN_non, tyN_bl, tyN_int, tyN_str, isi_ii, isi_ib, isi_it, isi_il, isi_bi, isi_bb, isi_tt, isi_ni, isi_si, isi_ti, isi_li, isi_di, isi_ll, scal_ii, scal_bb, sz0, sz1, sz2, sz3, sz4, List.map_cons, List.map_nil, List.length_cons, List.length_nil, List.replicate, List.cons_append, List.nil_append, List.append_nil, List.getElem?_cons_zero, List.getElem?_cons_succ, List.set_cons_zero, List.set_cons_succ, Option.some.injEq, V.int.injEq, V.bl.injEq, V.ref.injEq, V.ty.injEq, List.cons.injEq, and_true, true_and, exists_eq_left, exists_eq_left', exists_and_left, exists_and_right, exists_eq, exists_eq', and_assoc, Nat.reduceAdd, Nat.reduceSub, Bool.not_true, Bool.not_false, Bool.false_eq_true, if_true, if_false, reduceIte, Nat.zero_add, decide_true, decide_false, selC, comp_K, tYes, Option.join_some, rIxTH, rIxLH, rLenH, rIsiF, at0, at1, at2, at3, at4, at5, at6, at7, at8, HO.tup.injEq, HO.lst.injEq, reduceCtorEq, false_or, or_false, tyF_non, tyF_bl, tyF_int, tyF_str, exists_const, Int.reduceAdd, Int.reduceMul, Int.reduceSub, gSub, rSetL, tSl, tPart, tNoPart, rSlH, upd_same, upd_upd, rIntB, rListH, tBM, tBM0, rAppend, rClear, tPar, gTupH, hq1]
    refine cw_put hi hD1 ?_ ⟨same_put g1 hD, upd_same, ?_⟩
    · rw [ez, List.length_map, List.length_take]
      exact small1000 (by have := Nat.min_le_left i ps.length; omega)
    · rw [List.take_add_one, hr', ez, List.map_append]
      rfl
  · rintro zs H1 ⟨g1, hD1, ez⟩
    rw [List.take_of_length_le (by rw [hp.1]; exact Nat.le_refl _)] at ez
    refine ⟨D, ps.map fun p => p.w, 1, rfl, rfl, by rw [hD1, ez, List.map_map]; rfl, fun g gm gi => ?_⟩
    have g0 : 0 < g := by
      rcases gi with gi | gi
      · obtain ⟨p, hp', e⟩ := List.mem_map.mp gi
        have := (hs p hp').1
        omega
      · omega
    have gs : g.natAbs < 2 ^ 80 := by
      rcases gi with gi | gi
      · obtain ⟨p, hp', e⟩ := List.mem_map.mp gi
        rw [← e]
        exact (hs p hp').2.2.2
      · rw [gi.2]; decide
    refine ⟨g, rfl, g, rfl, cbig gs gs, fun d hd => ?_⟩
    have gg : (g * g).natAbs < 2 ^ 160 := by
      rw [Int.natAbs_mul]
      exact Nat.lt_of_lt_of_le (Nat.mul_lt_mul'' gs gs) (by decide)
    refine tFor_mk ?_
    simp only [iList, tSeq, tNext, tRet, tRetN, tIfS, tAsg, gName, tDrop, tVar, tC, tOp, tUn, rI, rI0, rU, rEq, rNe, tTest, tB, tNot, tAnd, tOr, tAndV, tOrV, tNotV, tIf, tCB, tCall, tNil, tCons, tTup, tLst, gTup, gCons, gNil, L2.start, rIsi, rIxT, rIxL, cx_K, tyN_non, tyN_bl, tyN_int, tyN_str, isi_ii, isi_ib, isi_it, isi_il, isi_bi, isi_bb, isi_tt, isi_ni, isi_si, isi_ti, isi_li, isi_di, isi_ll, scal_ii, scal_bb, sz0, sz1, sz2, sz3, sz4, List.map_cons, List.map_nil, List.length_cons, List.length_nil, List.replicate, List.cons_append, List.nil_append, List.append_nil, List.getElem?_cons_zero, List.getElem?_cons_succ, List.set_cons_zero, List.set_cons_succ, Option.some.injEq, V.int.injEq, V.bl.injEq, V.ref.injEq, V.ty.injEq, List.cons.injEq, and_true, true_and, exists_eq_left, exists_eq_left', exists_and_left, exists_and_right, exists_eq, exists_eq', and_assoc, Nat.reduceAdd, Nat.reduceSub, Bool.not_true, Bool.not_false, Bool.false_eq_true, if_true, if_false, reduceIte, Nat.zero_add, decide_true, decide_false, selC, comp_K, tYes, Option.join_some, rIxTH, rIxLH, rLenH, rIsiF, at0, at1, at2, at3, at4, at5, at6, at7, at8, HO.tup.injEq, HO.lst.injEq, reduceCtorEq, false_or, or_false, tyF_non, tyF_bl, tyF_int, tyF_str, exists_const, Int.reduceAdd, Int.reduceMul, Int.reduceSub, gSub, rSetL, tSl, tPart, tNoPart, rSlH, upd_same, upd_upd, rIntB, rListH, tBM, tBM0, rAppend, rClear, tPar, gTupH]
    have g2 := same_new hd (HO.dT [])
    refine ⟨⟨_, .of (g2 _ _ (g1 _ _ hl))⟩, ?_⟩
    refine for_list (K := K) (a := l) (xs := ys) (fun i σ H' => Same H1 H' ∧ ∃ (kvs : List (List Key × V)) (o : Option V), σ = [some (.ref l), some (.int g), some (.int (g * g)), some (.ref d), o] ∧ H' d = some (.dT kvs) ∧ kvs.length ≤ i ∧ KyOk H' kvs g (ps.take i) ∧ ∀ p, (valV kvs (kQ p)).isSome = true → p ∈ ps.take i)
      ⟨g2, [], none, rfl, upd_same, Nat.le_refl _, fun p hp' => (by rw [List.take_zero] at hp'; cases hp'), fun p z => (by cases z)⟩ (fun i σ H' _ iv => .of (iv.1 _ _ (g1 _ _ hl))) ?_ ?_
    · rintro i v σ H2 hi ⟨g3, kvs, o, rfl, hd2, hk, ky, kb⟩
      obtain ⟨p, r, rfl, hr', hq⟩ := hp.2 i v hi
      have hq2 : H2 p = some (.tup [.int r.x, .int r.y, .int r.w]) := g3 _ _ (g1 _ _ hq)
      simp only [tSeq, tNext, tRet, tRetN, tIfS, tAsg, gName, tDrop, tVar, tC, tOp, tUn, rI, rI0, rU, rEq, rNe, tTest, tB, tNot, tAnd, tOr, tAndV, tOrV, tNotV, tIf, tCB, tCall, tNil, tCons, tTup, tLst, gTup, gCons, gNil, L2.start, rIsi, rIxT, rIxL, cx_K, tyN_non, tyN_bl, tyN_int, tyN_str, isi_ii, isi_ib, isi_it, isi_il, isi_bi, isi_bb, isi_tt, isi_ni, isi_si, isi_ti, isi_li, isi_di, isi_ll, scal_ii, scal_bb, sz0, sz1, sz2, sz3, sz4, List.map_cons, List.map_nil, List.length_cons, List.length_nil, List.replicate, List.cons_append, List.nil_append, List.append_nil, List.getElem?_cons_zero, List.getElem?_cons_succ, List.set_cons_zero, List.set_cons_succ, Option.some.injEq, V.int.injEq, V.bl.injEq, V.ref.injEq, V.ty.injEq, List.cons.injEq, and_true, true_and, exists_eq_left, exists_eq_left', exists_and_left, exists_and_right, exists_eq, exists_eq', and_assoc, Nat.reduceAdd, Nat.reduceSub, Bool.not_true, Bool.not_false, Bool.false_eq_true, if_true, if_false, reduceIte, Nat.zero_add, decide_true, decide_false, selC, comp_K, tYes, Option.join_some, rIxTH, rIxLH, rLenH, rIsiF, at0, at1, at2, at3, at4, at5, at6, at7, at8, HO.tup.injEq, HO.lst.injEq, reduceCtorEq, false_or, or_false, tyF_non, tyF_bl, tyF_int, tyF_str, exists_const, Int.reduceAdd, Int.reduceMul, Int.reduceSub, gSub, rSetL, tSl, tPart, tNoPart, rSlH, upd_same, upd_upd, rIntB, rListH, tBM, tBM0, rAppend, rClear, tPar, gTupH, tDNotIn, sDPut, hq2]
      obtain ⟨r0, rx, ry, rw'⟩ := hs r (List.mem_of_getElem? hr')
      have wn : r.w ≠ 0 := by omega
      rw [List.take_add_one, hr']
      refine ⟨_, .t (k := kQ r) hd2 hq2, ite2 (fun c => ⟨cbig rx gg, cdivb wn rw', cbig ry gg, cdivb wn rw', fun t ht => ?_⟩) fun c => ?_⟩
      · rw [Int.fdiv_eq_ediv_of_nonneg _ (by omega), Int.fdiv_eq_ediv_of_nonneg _ (by omega)]
        have g4 := same_new ht (HO.tup [V.int (r.x * (g * g) / r.w), V.int (r.y * (g * g) / r.w)])
        have ht4 : upd H2 t (HO.tup [V.int (r.x * (g * g) / r.w), V.int (r.y * (g * g) / r.w)]) t = some (HO.tup [V.int (r.x * (g * g) / r.w), V.int (r.y * (g * g) / r.w)]) := upd_same
        generalize upd H2 t (HO.tup [V.int (r.x * (g * g) / r.w), V.int (r.y * (g * g) / r.w)]) = H4 at *
        have hd4 := g4 _ _ hd2
        refine ⟨_, .t (k := kQ r) hd4 (g4 _ _ hq2) (small1000 (by have := (List.getElem?_eq_some_iff.mp hi).1; omega)), same_put (g3.trans g4) hd, _, upd_same, Nat.le_trans (length_putK _ _ _) (by omega), fun p' hp' => ?_, fun p' z => ?_⟩
        · rw [valV_put]
          by_cases e : kQ p' = kQ r
          · rw [if_pos e]
            have e' := kQ_inj e
            subst e'
            exact ⟨t, rfl, ts_putD hd4 _ _ ht4⟩
          · rw [if_neg e]
            rcases List.mem_append.mp hp' with hp' | hp'
            · obtain ⟨b, e1, e2⟩ := ky p' hp'
              exact ⟨b, e1, ts_putD hd4 _ _ (g4 _ _ e2)⟩
            · have e' : p' = r := by simpa using hp'
              exact absurd (by rw [e']) e
        · rw [valV_put] at z
          by_cases e : kQ p' = kQ r
          · rw [kQ_inj e]
            exact List.mem_append_right _ (by simp)
          · rw [if_neg e] at z
            exact List.mem_append_left _ (kb p' z)
      · have z : (valV kvs (kQ r)).isSome = true := by
          cases e : (valV kvs (kQ r)).isSome with
          | true => rfl
          | false => exact absurd (by rw [e]; rfl) c
        refine ⟨g3, kvs, hd2, by omega, fun p' hp' => ?_, fun p' z' => List.mem_append_left _ (kb p' z')⟩
        rcases List.mem_append.mp hp' with hp' | hp'
        · exact ky p' hp'
        · have e' : p' = r := by simpa using hp'
          rw [e']
          exact ky r (kb r z)
    · rintro σ H2 ⟨g3, kvs, o, rfl, hd2, hk, ky, kb⟩
      rw [List.take_of_length_le (by rw [hp.1]; exact Nat.le_refl _)] at ky
      simp only [tSeq, tNext, tRet, tRetN, tIfS, tAsg, gName, tDrop, tVar, tC, tOp, tUn, rI, rI0, rU, rEq, rNe, tTest, tB, tNot, tAnd, tOr, tAndV, tOrV, tNotV, tIf, tCB, tCall, tNil, tCons, tTup, tLst, gTup, gCons, gNil, L2.start, rIsi, rIxT, rIxL, cx_K, tyN_non, tyN_bl, tyN_int, tyN_str, isi_ii, isi_ib, isi_it, isi_il, isi_bi, isi_bb, isi_tt, isi_ni, isi_si, isi_ti, isi_li, isi_di, isi_ll, scal_ii, scal_bb, sz0, sz1, sz2, sz3, sz4, List.map_cons, List.map_nil, List.length_cons, List.length_nil, List.replicate, List.cons_append, List.nil_append, List.append_nil, List.getElem?_cons_zero, List.getElem?_cons_succ, List.set_cons_zero, List.set_cons_succ, Option.some.injEq, V.int.injEq, V.bl.injEq, V.ref.injEq, V.ty.injEq, List.cons.injEq, and_true, true_and, exists_eq_left, exists_eq_left', exists_and_left, exists_and_right, exists_eq, exists_eq', and_assoc, Nat.reduceAdd, Nat.reduceSub, Bool.not_true, Bool.not_false, Bool.false_eq_true, if_true, if_false, reduceIte, Nat.zero_add, decide_true, decide_false, selC, comp_K, tYes, Option.join_some, rIxTH, rIxLH, rLenH, rIsiF, at0, at1, at2, at3, at4, at5, at6, at7, at8, HO.tup.injEq, HO.lst.injEq, reduceCtorEq, false_or, or_false, tyF_non, tyF_bl, tyF_int, tyF_str, exists_const, Int.reduceAdd, Int.reduceMul, Int.reduceSub, gSub, rSetL, tSl, tPart, tNoPart, rSlH, upd_same, upd_upd, rIntB, rListH, tBM, tBM0, rAppend, rClear, tPar, gTupH]
      exact k d kvs g H2 (g1.trans g3) hd2 g0 (fun p hp' => gm _ (List.mem_map.mpr ⟨p, hp', rfl⟩)) ky
abbrev Fc := Q3 × Q3
def FeQ (H : Hp) (p : Addr) (f : Fc) : Prop := ∃ a b, H p = some (.tup [.ref a, .ref b]) ∧ QH H a f.1 ∧ QH H b f.2
theorem feq_ts : ∀ (H H' : Hp) (p : Addr) (f : Fc), TupSame H H' → FeQ H p f → FeQ H' p f := fun _ _ _ _ g ⟨a, b, h1, h2, h3⟩ => ⟨a, b, g _ _ h1, g _ _ h2, g _ _ h3⟩
def kyF (g : Int) (f : Fc) : (Int × Int) × (Int × Int) := (kyQ g f.1, kyQ g f.2)
def kyL (g : Int) (f : Fc) : List (Int × Int) := [kyQ g f.1, kyQ g f.2]
theorem kyL_lt (g : Int) (f f' : Fc) : ltL (kyL g f) (kyL g f') = lt22 (kyF g f) (kyF g f') := ltL_two _ _ _ _
def PtOk (p : Q3) : Prop := 0 < p.w ∧ p.x.natAbs < 2 ^ 80 ∧ p.y.natAbs < 2 ^ 80 ∧ p.w.natAbs < 2 ^ 80
def FsOk (fs : List Fc) : Prop := ∀ f, f ∈ fs → PtOk f.1 ∧ PtOk f.2
def KInj (fs : List Fc) : Prop := ∀ g : Int, 0 < g → (∀ f, f ∈ fs → f.1.w ≤ g ∧ f.2.w ≤ g) → (fs.map (kyF g)).Nodup
def lposB : Pos := (lamAt s_by_points).2
def qlB : Str := (PyProof.Rows.envOfC "by_points" (defScope s_by_points) 0 0 .none).qual ++ "<lambda>"
def ptsOf (fs : List Fc) : List Q3 := fs.flatMap fun f => [f.1, f.2]
theorem pts_mem {fs : List Fc} {p : Q3} : p ∈ ptsOf fs ↔ ∃ f, f ∈ fs ∧ (p = f.1 ∨ p = f.2) := by
  unfold ptsOf
  simp [List.mem_flatMap]
theorem pts_snoc (fs : List Fc) (f : Fc) : ptsOf (fs ++ [f]) = ptsOf fs ++ [f.1, f.2] := by simp [ptsOf]
theorem pts_len (fs : List Fc) : (ptsOf fs).length = 2 * fs.length := by
  induction fs with
  | nil => rfl
  | cons f fs ih => unfold ptsOf at *; rw [List.flatMap_cons, List.length_append, ih]; simp; omega
def sp_byp (tb : Addr) (lp : Pos) (ql : Str) : Sp := fun vs H Q _ => ∃ (l : Addr) (ys : List V) (fs : List Fc), vs = [.ref l] ∧ H l = some (.lst ys) ∧ ys.length < 64 ∧ LR FeQ H ys fs ∧ FsOk fs ∧ KInj fs ∧ LamTab H tb lp ql ∧
  ∀ D zs fs' g H', H D = none → SameT tb H H' → LamTab H' tb lp ql → H' D = some (.lst zs) → LR FeQ H' zs fs' → fs'.Perm fs → 0 < g → (∀ f, f ∈ fs → f.1.w ≤ g ∧ f.2.w ≤ g) → (fs'.Pairwise fun a b => lt22 (kyF g a) (kyF g b) = true) → Q (.ref D) H'
theorem ok_by_points (T : Txt K mg ad fd) (hK : K.In base) (hB : base.BuiltinsAt mg (ad 25)) : FnOk P w K mg base CX0 3 (ad 5) (fd 5) ["things"] (sp_byp (ad 25) lposB qlB) := by
  refine T.by_points_c.ok sc_by_points (fun vs H Q E h => ?_) (fun A outer s H vs Q E hr h => ?_)
  · obtain ⟨l, ys, fs, rfl, _⟩ := h
    rfl
  obtain ⟨l, ys, fs, rfl, hl, h64, hp, fo, ki, lt, k⟩ := h
  have qpss4 := @pss4
  have qps_set := @ps_set
  have qpe_lst := @pe_lst
  have qpa_nil := @pa_nil
  have qps_for := @ps_for
  have qpi_list := @pi_list
  have qpv := @pv
  have qpg_name := @pg_name
  have qpss_one := @pss_one
  have qps_expr := @ps_expr
  have qpe_bm := @pe_bm
  have qpa1 := @pa1
  have qpe_call := @pe_call
  have qps_ret := @ps_ret
  have qpe_sortK := @pe_sortK
  have qpe_comp := @pe_comp
  unfold L2.CompBody at qpe_comp
  have qpi_tupK := @pi_tupK
  have qpif_nil := @pif_nil
  have qpe_dget := @pe_dget
  generalize @L2.PE = QE, @L2.PT = QT, @L2.PW = QW, @L2.PA = QA, @L2.PS = QS, @L2.PSs = QSs, @L2.PG = QG, @L2.PGs = QGs, @L2.PI = QI, @L2.PO = QO, @L2.PIf = QIf at qpss4 qps_set qpe_lst qpa_nil qps_for qpi_list qpv qpg_name qpss_one qps_expr qpe_bm qpa1 qpe_call qps_ret qpe_sortK qpe_comp qpi_tupK qpif_nil qpe_dget ⊢
  refine ⟨_,
    (qpss4
      (qps_set (i := 1) sc_by_points.nd rfl (Or.inl rfl) (qpe_lst qpa_nil))
      (qps_for PassesOwn.never rfl (qpi_list (qpv 0)) (qpg_name (i := 2) sc_by_points.nd rfl (Or.inl rfl)) (qpss_one (qps_expr (qpe_bm PySem.F.plainAttrs_list PySem.F.slot_list_extend PySem.F.type_list_extend mt_extT (qpv 1) (qpa1 (qpv 2) ns_Name)))))
      (qps_set (i := 3) sc_by_points.nd rfl (Or.inr rfl) (qpe_call (ok_order_keys T) (hr.mono (by omega)) rfl T.order_keys.mg T.order_keys.fn.kp T.order_keys.bn .nil pass0 (qpa1 (qpv 1) ns_Name)))
      (qps_ret (qpe_sortK (P := ad 25) (c0 := ad 24) (x := "thing") (y := "keys") (c := s.heap.objs.size + 1) (i0 := 3) (keyKP_lsts (hu80 hr)) hr rfl T.b_sorted (qpa1 (qpv 0) ns_Name) ⟨rfl, rfl, rfl, rfl, rfl, by decide +kernel, by decide +kernel⟩ rfl rfl rfl rfl rfl rfl (PySem.W.codeHd_of_K hK T.by_points_c.hd) hB (fun _ _ _ _ => rfl) (by intro fa2 c2 A2 s3 H3 hu2; exact (qpe_comp (dsc := (lamAt s_by_points).1) (N := ["thing", "keys"]) (own := ["P"]) (ix := [1]) rfl rfl rfl ⟨rfl, by decide +kernel, by decide +kernel, by decide +kernel, by decide +kernel⟩ (qpi_tupK (K' := K) rfl (qpv 0)) (fun cl C fp s2 H2 xe => ⟨(qpg_name (i := 0) (show List.Nodup (["P", "keys"] : List Str) from by decide +kernel) rfl (Or.inl rfl)), qpif_nil, (qpe_dget (by show A2.units + 3 + 1 < cLine; omega) (qpv 1) (qpv 0) (fun _ _ => rfl))⟩))))))
    , ?_⟩
  clear  qpss4 qps_set qpe_lst qpa_nil qps_for qpi_list qpv qpg_name qpss_one qps_expr qpe_bm qpa1 qpe_call qps_ret qpe_sortK qpe_comp qpi_tupK qpif_nil qpe_dget QE QT QW QA QS QSs QG QGs QI QO QIf
  simp only [tSeq, tNext, tRet, tRetN, tIfS, tAsg, gName, tDrop, tVar, tC, tOp, tUn, rI, rI0, rU, rEq, rNe, tTest, tB, tNot, tAnd, tOr, tAndV, tOrV, tNotV, tIf, tCB, tCall, tNil, tCons, tTup, tLst, gTup, gCons, gNil, L2.start, rIsi, rIxT, rIxL, cx_K, tyN_non, tyN_bl, tyN_int, tyN_str, isi_ii, isi_ib, isi_it, isi_il, isi_bi, isi_bb, isi_tt, isi_ni, isi_si, isi_ti, isi_li, isi_di, isi_ll, scal_ii, scal_bb, sz0, sz1, sz2, sz3, sz4, List.map_cons, List.map_nil, List.length_cons, List.length_nil, List.replicate, List.cons_append, List.nil_append, List.append_nil, List.getElem?_cons_zero, List.getElem?_cons_succ, List.set_cons_zero, List.set_cons_succ, Option.some.injEq, V.int.injEq, V.bl.injEq, V.ref.injEq, V.ty.injEq, List.cons.injEq, and_true, true_and, exists_eq_left, exists_eq_left', exists_and_left, exists_and_right, exists_eq, exists_eq', and_assoc, Nat.reduceAdd, Nat.reduceSub, Bool.not_true, Bool.not_false, Bool.false_eq_true, if_true, if_false, reduceIte, Nat.zero_add, decide_true, decide_false, selC, comp_K, tYes, Option.join_some, rIxTH, rIxLH, rLenH, rIsiF, at0, at1, at2, at3, at4, at5, at6, at7, at8, HO.tup.injEq, HO.lst.injEq, reduceCtorEq, false_or, or_false, tyF_non, tyF_bl, tyF_int, tyF_str, exists_const, Int.reduceAdd, Int.reduceMul, Int.reduceSub, gSub, rSetL, tSl, tPart, tNoPart, rSlH, upd_same, upd_upd, rIntB, rListH, tBM, tBM0, rAppend, rClear, tPar, gTupH]
  intro D0 hD0
  have g0 := same_new hD0 (HO.lst [])
  refine tFor_mk ?_
  simp only [iList, tSeq, tNext, tRet, tRetN, tIfS, tAsg, gName, tDrop, tVar, tC, tOp, tUn, rI, rI0, rU, rEq, rNe, tTest, tB, tNot, tAnd, tOr, tAndV, tOrV, tNotV, tIf, tCB, tCall, tNil, tCons, tTup, tLst, gTup, gCons, gNil, L2.start, rIsi, rIxT, rIxL, cx_K, tyN_non, tyN_bl, tyN_int, tyN_str, isi_ii, isi_ib, isi_it, isi_il, isi_bi, isi_bb, isi_tt, isi_ni, isi_si, isi_ti, isi_li, isi_di, isi_ll, scal_ii, scal_bb, sz0, sz1, sz2, sz3, sz4, List.map_cons, List.map_nil, List.length_cons, List.length_nil, List.replicate, List.cons_append, List.nil_append, List.append_nil, List.getElem?_cons_zero, List.getElem?_cons_succ, List.set_cons_zero, List.set_cons_succ, Option.some.injEq, V.int.injEq, V.bl.injEq, V.ref.injEq, V.ty.injEq, List.cons.injEq, and_true, true_and, exists_eq_left, exists_eq_left', exists_and_left, exists_and_right, exists_eq, exists_eq', and_assoc, Nat.reduceAdd, Nat.reduceSub, Bool.not_true, Bool.not_false, Bool.false_eq_true, if_true, if_false, reduceIte, Nat.zero_add, decide_true, decide_false, selC, comp_K, tYes, Option.join_some, rIxTH, rIxLH, rLenH, rIsiF, at0, at1, at2, at3, at4, at5, at6, at7, at8, HO.tup.injEq, HO.lst.injEq, reduceCtorEq, false_or, or_false, tyF_non, tyF_bl, tyF_int, tyF_str, exists_const, Int.reduceAdd, Int.reduceMul, Int.reduceSub, gSub, rSetL, tSl, tPart, tNoPart, rSlH, upd_same, upd_upd, rIntB, rListH, tBM, tBM0, rAppend, rClear, tPar, gTupH]
  refine ⟨⟨_, .of (g0 _ _ hl)⟩, ?_⟩
  have lenF : fs.length = ys.length := hp.1.symm
  refine for_list (K := K) (a := l) (xs := ys) (fun i σ H' => Same H H' ∧ ∃ (zs : List V) (o : Option V), σ = [some (.ref l), some (.ref D0), o, none] ∧ H' D0 = some (.lst zs) ∧ LR QH H' zs (ptsOf (fs.take i))) ⟨g0, [], none, rfl, upd_same, by rw [List.take_zero]; exact .nil⟩ (fun i σ H' _ iv => .of (iv.1 _ _ hl)) ?_ ?_
  · rintro i v σ H1 hi ⟨g1, zs, o, rfl, hD1, hz⟩
    obtain ⟨p, f, rfl, hf, a, b, hq, ha, hb⟩ := hp.2 i v hi
    have hq1 := g1 _ _ hq
    have hi' := (List.getElem?_eq_some_iff.mp hi).1
    have lz : zs.length ≤ 200 := by
      rw [hz.1, pts_len, List.length_take]
      have := Nat.min_le_left i fs.length
      omega
    simp only [tSeq, tNext, tRet, tRetN, tIfS, tAsg, gName, tDrop, tVar, tC, tOp, tUn, rI, rI0, rU, rEq, rNe, tTest, tB, tNot, tAnd, tOr, tAndV, tOrV, tNotV, tIf, tCB, tCall, tNil, tCons, tTup, tLst, gTup, gCons, gNil, L2.start, rIsi, rIxT, rIxL, cx_K, tyN_non, tyN_bl, tyN_int, tyN_str, isi_ii, isi_ib, isi_it, isi_il, isi_bi, isi_bb, isi_tt, isi_ni, isi_si, isi_ti, isi_li, isi_di, isi_ll, scal_ii, scal_bb, sz0, sz1, sz2, sz3, sz4, List.map_cons, List.map_nil, List.length_cons, List.length_nil, List.replicate, List.cons_append, List.nil_append, List.append_nil, List.getElem?_cons_zero, List.getElem?_cons_succ, List.set_cons_zero, List.set_cons_succ, Option.some.injEq, V.int.injEq, V.bl.injEq, V.ref.injEq, V.ty.injEq, List.cons.injEq, and_true, true_and, exists_eq_left, exists_eq_left', exists_and_left, exists_and_right, exists_eq, exists_eq', and_assoc, Nat.reduceAdd, Nat.reduceSub, Bool.not_true, Bool.not_false, Bool.false_eq_true, if_true, if_false, reduceIte, Nat.zero_add, decide_true, decide_false, selC, comp_K, tYes, Option.join_some, rIxTH, rIxLH, rLenH, rIsiF, at0, at1, at2, at3, at4, at5, at6, at7, at8, HO.tup.injEq, HO.lst.injEq, reduceCtorEq, false_or, or_false, tyF_non, tyF_bl, tyF_int, tyF_str, exists_const, Int.reduceAdd, Int.reduceMul, Int.reduceSub, gSub, rSetL, tSl, tPart, tNoPart, rSlH, upd_same, upd_upd, rIntB, rListH, tBM, tBM0, rAppend, rClear, tPar, gTupH, rExtT, hq1]
    refine ⟨tyV_of hD1, zs, hD1, Nat.le_of_lt (small1000 (by omega)), same_put g1 hD0, ?_⟩
    rw [List.take_add_one, hf]
    show LR QH _ _ (ptsOf (fs.take i ++ [f]))
    rw [pts_snoc]
    exact ((hz.app (bs := [f.1, f.2]) ((LR.one (ha : QH H a f.1)).app (LR.one (hb : QH H b f.2)) |>.ts qh_ts (ts_same g1)))).ts qh_ts (ts_put hD1)
  · rintro σ H1 ⟨g1, zs, o, rfl, hD1, hz⟩
    rw [List.take_of_length_le (by rw [lenF]; exact Nat.le_refl _)] at hz
    simp only [tSeq, tNext, tRet, tRetN, tIfS, tAsg, gName, tDrop, tVar, tC, tOp, tUn, rI, rI0, rU, rEq, rNe, tTest, tB, tNot, tAnd, tOr, tAndV, tOrV, tNotV, tIf, tCB, tCall, tNil, tCons, tTup, tLst, gTup, gCons, gNil, L2.start, rIsi, rIxT, rIxL, cx_K, tyN_non, tyN_bl, tyN_int, tyN_str, isi_ii, isi_ib, isi_it, isi_il, isi_bi, isi_bb, isi_tt, isi_ni, isi_si, isi_ti, isi_li, isi_di, isi_ll, scal_ii, scal_bb, sz0, sz1, sz2, sz3, sz4, List.map_cons, List.map_nil, List.length_cons, List.length_nil, List.replicate, List.cons_append, List.nil_append, List.append_nil, List.getElem?_cons_zero, List.getElem?_cons_succ, List.set_cons_zero, List.set_cons_succ, Option.some.injEq, V.int.injEq, V.bl.injEq, V.ref.injEq, V.ty.injEq, List.cons.injEq, and_true, true_and, exists_eq_left, exists_eq_left', exists_and_left, exists_and_right, exists_eq, exists_eq', and_assoc, Nat.reduceAdd, Nat.reduceSub, Bool.not_true, Bool.not_false, Bool.false_eq_true, if_true, if_false, reduceIte, Nat.zero_add, decide_true, decide_false, selC, comp_K, tYes, Option.join_some, rIxTH, rIxLH, rLenH, rIsiF, at0, at1, at2, at3, at4, at5, at6, at7, at8, HO.tup.injEq, HO.lst.injEq, reduceCtorEq, false_or, or_false, tyF_non, tyF_bl, tyF_int, tyF_str, exists_const, Int.reduceAdd, Int.reduceMul, Int.reduceSub, gSub, rSetL, tSl, tPart, tNoPart, rSlH, upd_same, upd_upd, rIntB, rListH, tBM, tBM0, rAppend, rClear, tPar, gTupH]
    refine ⟨D0, zs, ptsOf fs, rfl, hD1, by rw [hz.1, pts_len]; omega, hz, fun p hp' => ?_, fun d kvs g H2 g2 hd2 gp gm ky => ?_⟩
    · obtain ⟨f, hf, e⟩ := pts_mem.mp hp'
      rcases e with e | e
      · rw [e]; exact (fo f hf).1
      · rw [e]; exact (fo f hf).2
    have g12 := g1.trans g2
    simp only [tSortK, tSeq, tNext, tRet, tRetN, tIfS, tAsg, gName, tDrop, tVar, tC, tOp, tUn, rI, rI0, rU, rEq, rNe, tTest, tB, tNot, tAnd, tOr, tAndV, tOrV, tNotV, tIf, tCB, tCall, tNil, tCons, tTup, tLst, gTup, gCons, gNil, L2.start, rIsi, rIxT, rIxL, cx_K, tyN_non, tyN_bl, tyN_int, tyN_str, isi_ii, isi_ib, isi_it, isi_il, isi_bi, isi_bb, isi_tt, isi_ni, isi_si, isi_ti, isi_li, isi_di, isi_ll, scal_ii, scal_bb, sz0, sz1, sz2, sz3, sz4, List.map_cons, List.map_nil, List.length_cons, List.length_nil, List.replicate, List.cons_append, List.nil_append, List.append_nil, List.getElem?_cons_zero, List.getElem?_cons_succ, List.set_cons_zero, List.set_cons_succ, Option.some.injEq, V.int.injEq, V.bl.injEq, V.ref.injEq, V.ty.injEq, List.cons.injEq, and_true, true_and, exists_eq_left, exists_eq_left', exists_and_left, exists_and_right, exists_eq, exists_eq', and_assoc, Nat.reduceAdd, Nat.reduceSub, Bool.not_true, Bool.not_false, Bool.false_eq_true, if_true, if_false, reduceIte, Nat.zero_add, decide_true, decide_false, selC, comp_K, tYes, Option.join_some, rIxTH, rIxLH, rLenH, rIsiF, at0, at1, at2, at3, at4, at5, at6, at7, at8, HO.tup.injEq, HO.lst.injEq, reduceCtorEq, false_or, or_false, tyF_non, tyF_bl, tyF_int, tyF_str, exists_const, Int.reduceAdd, Int.reduceMul, Int.reduceSub, gSub, rSetL, tSl, tPart, tNoPart, rSlH, upd_same, upd_upd, rIntB, rListH, tBM, tBM0, rAppend, rClear, tPar, gTupH]
    refine ⟨ys, g12 _ _ hl, h64, lt.same g12, fun c' H3 st3 lt3 hc3 => ?_⟩
    have hl3 := st3.lst (lt.same g12) (g12 _ _ hl)
    have hd3 : H3 d = some (.dT kvs) := st3 _ _ ((lt.same g12).ne hd2 fun _ z => nomatch z) hd2
    have ts3 : TupSame H2 H3 := fun b xs q => st3.tup (lt.same g12) q
    have ky3 := ky.ts ts3
    have hp3 : LR FeQ H3 ys fs := (hp.ts feq_ts (ts_same g12)).ts feq_ts ts3
    have z0 : Fc := (⟨0, 0, 0⟩, ⟨0, 0, 0⟩)
    refine ⟨fun i ks H' => Same H3 H' ∧ ks.length = i ∧ ∀ j, j < i → LsI H' (ks.getD j .non) (kyL g (fs.getD j z0)), ⟨⟨.refl _, rfl, fun j hj => by omega⟩, fun i ks H' q => q.1 _ _ hc3, fun i ks H' q => q.2.1, fun i ks H4 v hv q => ?_, fun ks H4 q => ?_⟩⟩
    · obtain ⟨g4, lk, q⟩ := q
      obtain ⟨p, f, rfl, hf, hpf⟩ := hp3.2 i v hv
      obtain ⟨a, b, hq, ha, hb⟩ := feq_ts _ _ _ _ (ts_same g4) hpf
      have hd4 := g4 _ _ hd3
      obtain ⟨b1, e1, h1⟩ := ky3 f.1 (pts_mem.mpr ⟨f, List.mem_of_getElem? hf, .inl rfl⟩)
      obtain ⟨b2, e2, h2⟩ := ky3 f.2 (pts_mem.mpr ⟨f, List.mem_of_getElem? hf, .inr rfl⟩)
      refine tComp_mk ?_
      simp only [iTup, tSeq, tNext, tRet, tRetN, tIfS, tAsg, gName, tDrop, tVar, tC, tOp, tUn, rI, rI0, rU, rEq, rNe, tTest, tB, tNot, tAnd, tOr, tAndV, tOrV, tNotV, tIf, tCB, tCall, tNil, tCons, tTup, tLst, gTup, gCons, gNil, L2.start, rIsi, rIxT, rIxL, cx_K, tyN_non, tyN_bl, tyN_int, tyN_str, isi_ii, isi_ib, isi_it, isi_il, isi_bi, isi_bb, isi_tt, isi_ni, isi_si, isi_ti, isi_li, isi_di, isi_ll, scal_ii, scal_bb, sz0, sz1, sz2, sz3, sz4, List.map_cons, List.map_nil, List.length_cons, List.length_nil, List.replicate, List.cons_append, List.nil_append, List.append_nil, List.getElem?_cons_zero, List.getElem?_cons_succ, List.set_cons_zero, List.set_cons_succ, Option.some.injEq, V.int.injEq, V.bl.injEq, V.ref.injEq, V.ty.injEq, List.cons.injEq, and_true, true_and, exists_eq_left, exists_eq_left', exists_and_left, exists_and_right, exists_eq, exists_eq', and_assoc, Nat.reduceAdd, Nat.reduceSub, Bool.not_true, Bool.not_false, Bool.false_eq_true, if_true, if_false, reduceIte, Nat.zero_add, decide_true, decide_false, selC, comp_K, tYes, Option.join_some, rIxTH, rIxLH, rLenH, rIsiF, at0, at1, at2, at3, at4, at5, at6, at7, at8, HO.tup.injEq, HO.lst.injEq, reduceCtorEq, false_or, or_false, tyF_non, tyF_bl, tyF_int, tyF_str, exists_const, Int.reduceAdd, Int.reduceMul, Int.reduceSub, gSub, rSetL, tSl, tPart, tNoPart, rSlH, upd_same, upd_upd, rIntB, rListH, tBM, tBM0, rAppend, rClear, tPar, gTupH]
      refine ⟨⟨_, .of hq⟩, fun D hD => ?_⟩
      refine comp_tup (xs := [.ref a, .ref b]) (fun n qs H' => Same H4 H' ∧ H' D = some (.lst qs) ∧ qs = ([V.ref b1, V.ref b2]).take n) ⟨same_new hD _, upd_same, rfl⟩ (fun n qs H' z => .of (z.1 _ _ hq)) ?_ ?_
      · rintro n qs H5 x hn hx ⟨g5, hD5, eq⟩
        simp only [tDGet, tSeq, tNext, tRet, tRetN, tIfS, tAsg, gName, tDrop, tVar, tC, tOp, tUn, rI, rI0, rU, rEq, rNe, tTest, tB, tNot, tAnd, tOr, tAndV, tOrV, tNotV, tIf, tCB, tCall, tNil, tCons, tTup, tLst, gTup, gCons, gNil, L2.start, rIsi, rIxT, rIxL, cx_K, tyN_non, tyN_bl, tyN_int, tyN_str, isi_ii, isi_ib, isi_it, isi_il, isi_bi, isi_bb, isi_tt, isi_ni, isi_si, isi_ti, isi_li, isi_di, isi_ll, scal_ii, scal_bb, sz0, sz1, sz2, sz3, sz4, List.map_cons, List.map_nil, List.length_cons, List.length_nil, List.replicate, List.cons_append, List.nil_append, List.append_nil, List.getElem?_cons_zero, List.getElem?_cons_succ, List.set_cons_zero, List.set_cons_succ, Option.some.injEq, V.int.injEq, V.bl.injEq, V.ref.injEq, V.ty.injEq, List.cons.injEq, and_true, true_and, exists_eq_left, exists_eq_left', exists_and_left, exists_and_right, exists_eq, exists_eq', and_assoc, Nat.reduceAdd, Nat.reduceSub, Bool.not_true, Bool.not_false, Bool.false_eq_true, if_true, if_false, reduceIte, Nat.zero_add, decide_true, decide_false, selC, comp_K, tYes, Option.join_some, rIxTH, rIxLH, rLenH, rIsiF, at0, at1, at2, at3, at4, at5, at6, at7, at8, HO.tup.injEq, HO.lst.injEq, reduceCtorEq, false_or, or_false, tyF_non, tyF_bl, tyF_int, tyF_str, exists_const, Int.reduceAdd, Int.reduceMul, Int.reduceSub, gSub, rSetL, tSl, tPart, tNoPart, rSlH, upd_same, upd_upd, rIntB, rListH, tBM, tBM0, rAppend, rClear, tPar, gTupH]
        match n, hx, hn with
        | 0, hx, _ =>
          cases hx
          exact ⟨_, by rw [← e1]; exact .t (k := kQ f.1) (g5 _ _ hd4) (g5 _ _ ha), cw_put (by decide) hD5 (by rw [eq]; exact small1000 (by simp)) ⟨same_put g5 hD, upd_same, by rw [eq]; rfl⟩⟩
        | 1, hx, _ =>
          cases hx
          exact ⟨_, by rw [← e2]; exact .t (k := kQ f.2) (g5 _ _ hd4) (g5 _ _ hb), cw_put (by decide) hD5 (by rw [eq]; exact small1000 (by simp)) ⟨same_put g5 hD, upd_same, by rw [eq]; rfl⟩⟩
      · rintro qs H5 ⟨g5, hD5, eq⟩
        have eq : qs = [V.ref b1, V.ref b2] := eq
        subst eq
        refine ⟨g4.trans g5, by rw [List.length_append, lk]; rfl, fun j hj => ?_⟩
        by_cases e : j < i
        · obtain ⟨q0, qs0, e0, hq0, l0, k0⟩ := q j e
          have ej : (ks ++ [V.ref D]).getD j .non = ks.getD j .non := by
            rw [List.getD_eq_getElem?_getD, List.getElem?_append_left (by omega), ← List.getD_eq_getElem?_getD]
          rw [ej]
          refine ⟨q0, qs0, e0, g5 _ _ hq0, l0, fun j k hk => ?_⟩
          obtain ⟨b, hb1, hb2⟩ := k0 j k hk
          exact ⟨b, hb1, g5 _ _ hb2⟩
        · have ej : j = i := by omega
          subst ej
          have e3 : (ks ++ [V.ref D]).getD j .non = .ref D := by
            rw [List.getD_eq_getElem?_getD, List.getElem?_append_right (by omega), lk, Nat.sub_self]
            rfl
          have e4 : fs.getD j z0 = f := by rw [List.getD_eq_getElem?_getD, hf]; rfl
          rw [e3, e4]
          refine ⟨D, _, rfl, hD5, rfl, fun m k hk => ?_⟩
          unfold kyL at hk
          match m, hk with
          | 0, hk => cases hk; exact ⟨b1, rfl, g5 _ _ (g4 _ _ h1)⟩
          | 1, hk => cases hk; exact ⟨b2, rfl, g5 _ _ (g4 _ _ h2)⟩
    · obtain ⟨g4, lk, q⟩ := q
      refine ⟨_, ⟨fun i => kyL g (fs.getD i z0), fun i hi => q i (by omega), rfl⟩, fun D p hD or ep => ?_⟩
      have gw : ∀ f, f ∈ fs → f.1.w ≤ g ∧ f.2.w ≤ g := fun f hf => ⟨gm _ (pts_mem.mpr ⟨f, hf, .inl rfl⟩), gm _ (pts_mem.mpr ⟨f, hf, .inr rfl⟩)⟩
      rw [← lenF] at or ep
      simp only [kyL_lt] at ep
      obtain ⟨pm, pw⟩ := sorted_of sto22 (kyF g) z0 (ki g gp gw) or ep
      have g5 := same_new hD (HO.lst (p.toList.map fun i => ys.getD i .non))
      refine k D _ _ g _ (g12.free (?_ : H2 D = none)) (fun b o nb e => g5 _ _ (g4 _ _ (st3 _ _ nb (g12 _ _ e)))) ((lt3.same g4).same g5) upd_same ?_ pm gp gw pw
      · have h3 := g4.free hD
        cases e : H2 D with
        | none => rfl
        | some o =>
          by_cases nb : D = ad 25
          · obtain ⟨tp, e3, _⟩ := lt3
            rw [← nb, h3] at e3
            cases e3
          · rw [st3 _ _ nb e] at h3
            cases h3
      · have hp5 : LR FeQ (upd H4 D (HO.lst (p.toList.map fun i => ys.getD i .non))) ys fs := hp3.ts feq_ts (ts_same (g4.trans g5))
        refine ⟨by rw [List.length_map, List.length_map], fun j v hv => ?_⟩
        rw [List.getElem?_map] at hv
        cases e : p.toList[j]? with
        | none => rw [e] at hv; cases hv
        | some i =>
          rw [e] at hv
          have ev : ys.getD i .non = v := by simpa using hv
          have hi : i < fs.length := List.mem_range.mp (or.mem_iff.mp (List.mem_of_getElem? e))
          obtain ⟨q1, f, e1, e2, e3⟩ := hp5.at (j := i) (by omega)
          rw [List.getD_eq_getElem?_getD, e1] at ev
          refine ⟨q1, f, ev.symm, ?_, e3⟩
          rw [List.getElem?_map, e, Option.map_some, List.getD_eq_getElem?_getD, e2]
          rfl
instance : DecidableEq Q3 := fun p q => if h : p.x = q.x ∧ p.y = q.y ∧ p.w = q.w then .isTrue (by obtain ⟨x, y, w⟩ := p; obtain ⟨x', y', w'⟩ := q; obtain ⟨h1, h2, h3⟩ := h; simp only at h1 h2 h3; rw [h1, h2, h3]) else .isFalse fun e => h (by rw [e]; exact ⟨rfl, rfl, rfl⟩)
structure OneD (H0 H : Hp) (d : Addr) (kvs : List (List Key × V)) (m : Q3 → List Q3) : Prop where
  new : H0 d = none
  at_ : H d = some (.dT kvs)
  ent : ∀ k v, valV kvs k = some v → ∃ q a ys, k = kQ q ∧ v = .ref a ∧ H0 a = none ∧ H a = some (.lst ys) ∧ LR QH H ys (m q)
  non : ∀ q, valV kvs (kQ q) = none → m q = []
  inj : ∀ k k' a, valV kvs k = some (.ref a) → valV kvs k' = some (.ref a) → k = k'
structure TwoD (H0 H : Hp) (d e : Addr) (kd ke : List (List Key × V)) (m n : Q3 → List Q3) : Prop where
  same : Same H0 H
  one : OneD H0 H d kd m
  two : OneD H0 H e ke n
  dj : ∀ k k' a, valV kd k = some (.ref a) → valV ke k' ≠ some (.ref a)
  ne : d ≠ e
def adm (m : Q3 → List Q3) (p q : Q3) : Q3 → List Q3 := fun x => if x = p then m x ++ [q] else m x
theorem OneD.mono {H0 H H' : Hp} {d : Addr} {kvs : List (List Key × V)} {m : Q3 → List Q3} (h : OneD H0 H d kvs m) (g : Same H H') : OneD H0 H' d kvs m :=
  ⟨h.new, g _ _ h.at_, fun k v e => by
    obtain ⟨q, a, ys, e1, e2, e3, e4, e5⟩ := h.ent k v e
    exact ⟨q, a, ys, e1, e2, e3, g _ _ e4, e5.ts qh_ts (ts_same g)⟩, h.non, h.inj⟩
theorem TwoD.mono {H0 H H' : Hp} {d e : Addr} {kd ke : List (List Key × V)} {m n : Q3 → List Q3} (h : TwoD H0 H d e kd ke m n) (g : Same H H') : TwoD H0 H' d e kd ke m n := ⟨h.same.trans g, h.one.mono g, h.two.mono g, h.dj, h.ne⟩
theorem TwoD.swap {H0 H : Hp} {d e : Addr} {kd ke : List (List Key × V)} {m n : Q3 → List Q3} (h : TwoD H0 H d e kd ke m n) : TwoD H0 H e d ke kd n m := ⟨h.same, h.two, h.one, fun k k' a h1 h2 => h.dj k' k a h2 h1, h.ne.symm⟩
theorem OneD.off {H0 H : Hp} {d a : Addr} {kvs : List (List Key × V)} {m : Q3 → List Q3} {ys zs : List V} (h : OneD H0 H d kvs m) (ha : H a = some (.lst ys)) (na : ∀ k, valV kvs k ≠ some (.ref a)) : OneD H0 (upd H a (.lst zs)) d kvs m := by
  refine ⟨h.new, ?_, fun k v e => ?_, h.non, h.inj⟩
  · rw [upd_ne (fun z => by rw [← z, h.at_] at ha; cases ha)]
    exact h.at_
  · obtain ⟨q, b, us, e1, e2, e3, e4, e5⟩ := h.ent k v e
    refine ⟨q, b, us, e1, e2, e3, ?_, e5.ts qh_ts (ts_put ha)⟩
    rw [upd_ne (fun z => na k (by rw [e, e2, z]))]
    exact e4
theorem TwoD.old {H0 H : Hp} {d e a r : Addr} {kd ke : List (List Key × V)} {m n : Q3 → List Q3} {p q : Q3} {ys : List V} (h : TwoD H0 H d e kd ke m n) (hv : valV kd (kQ p) = some (.ref a)) (ha : H a = some (.lst ys)) (hq : QH H r q) :
    TwoD H0 (upd H a (.lst (ys ++ [.ref r]))) d e kd ke (adm m p q) n := by
  have ent := h.one.ent _ _ hv
  obtain ⟨p', a', ys', e1, e2, e3, e4, e5⟩ := ent
  cases e2
  rw [ha] at e4
  cases e4
  have e1 := kQ_inj e1
  subst e1
  refine ⟨same_put h.same e3, ⟨h.one.new, ?_, fun k v hk => ?_, fun x hx => ?_, h.one.inj⟩, h.two.off ha (fun k z => h.dj _ _ _ hv z), h.dj, h.ne⟩
  · rw [upd_ne (fun z => by rw [← z, h.one.at_] at ha; cases ha)]
    exact h.one.at_
  · obtain ⟨x, b, us, f1, f2, f3, f4, f5⟩ := h.one.ent k v hk
    by_cases eb : b = a
    · subst eb
      subst f2
      have ek := h.one.inj _ _ _ hk hv
      have ex : x = p := kQ_inj (f1.symm.trans ek)
      subst ex
      rw [ha] at f4
      cases f4
      refine ⟨x, b, _, f1, rfl, f3, upd_same, ?_⟩
      unfold adm
      rw [if_pos rfl]
      exact (f5.snoc hq).ts qh_ts (ts_put ha)
    · refine ⟨x, b, us, f1, f2, f3, by rw [upd_ne eb]; exact f4, ?_⟩
      have nx : x ≠ p := fun z => eb (by
        rw [f1, z] at hk
        rw [hv] at hk
        cases hk
        cases f2
        rfl)
      unfold adm
      rw [if_neg nx]
      exact f5.ts qh_ts (ts_put ha)
  · have nx : x ≠ p := fun z => by rw [z, hv] at hx; cases hx
    unfold adm
    rw [if_neg nx]
    exact h.one.non x hx
theorem TwoD.fresh {H0 H : Hp} {d e t r : Addr} {kd ke : List (List Key × V)} {m n : Q3 → List Q3} {p q : Q3} (h : TwoD H0 H d e kd ke m n) (hv : valV kd (kQ p) = none) (ht : H t = none) (hq : QH H r q) :
    TwoD H0 (upd (upd (upd H t (.lst [])) d (.dT (putK kd (kQ p) (.ref t)))) t (.lst [.ref r])) d e (putK kd (kQ p) (.ref t)) ke (adm m p q) n := by
  have td : t ≠ d := fun z => by rw [z, h.one.at_] at ht; cases ht
  have te : t ≠ e := fun z => by rw [z, h.two.at_] at ht; cases ht
  have h0t := h.same.free ht
  have up : ∀ b o, b ≠ d → H b = some o → upd (upd (upd H t (.lst [])) d (.dT (putK kd (kQ p) (.ref t)))) t (.lst [.ref r]) b = some o := fun b o nb hb => by
    have nt : b ≠ t := fun z => by rw [z, ht] at hb; cases hb
    rw [upd_ne nt, upd_ne nb, upd_ne nt]
    exact hb
  have ts : TupSame H (upd (upd (upd H t (.lst [])) d (.dT (putK kd (kQ p) (.ref t)))) t (.lst [.ref r])) := fun b xs hb => up b _ (fun z => by rw [z, h.one.at_] at hb; cases hb) hb
  have nk : ∀ k, valV kd k ≠ some (.ref t) := fun k z => by
    obtain ⟨_, b, _, _, f2, _, f4, _⟩ := h.one.ent k _ z
    cases f2
    rw [ht] at f4
    cases f4
  have nl : ∀ k, valV ke k ≠ some (.ref t) := fun k z => by
    obtain ⟨_, b, _, _, f2, _, f4, _⟩ := h.two.ent k _ z
    cases f2
    rw [ht] at f4
    cases f4
  refine ⟨fun b o hb => up b o (fun z => by rw [z, h.one.new] at hb; cases hb) (h.same _ _ hb), ⟨h.one.new, by rw [upd_ne td.symm]; exact upd_same, fun k v hk => ?_, fun x hx => ?_, fun k k' a h1 h2 => ?_⟩, ⟨h.two.new, up _ _ h.ne.symm h.two.at_, fun k v hk => ?_, h.two.non, h.two.inj⟩, fun k k' a h1 h2 => ?_, h.ne⟩
  · rw [valV_put] at hk
    by_cases ek : k = kQ p
    · rw [if_pos ek] at hk
      cases hk
      refine ⟨p, t, _, ek, rfl, h0t, upd_same, ?_⟩
      unfold adm
      rw [if_pos rfl, h.one.non p hv]
      exact (LR.one hq).ts qh_ts ts
    · rw [if_neg ek] at hk
      obtain ⟨x, b, us, f1, f2, f3, f4, f5⟩ := h.one.ent k v hk
      refine ⟨x, b, us, f1, f2, f3, up b _ (fun z => by rw [z, h.one.at_] at f4; cases f4) f4, ?_⟩
      unfold adm
      rw [if_neg (fun z => ek (by rw [f1, z]))]
      exact f5.ts qh_ts ts
  · rw [valV_put] at hx
    by_cases ek : kQ x = kQ p
    · rw [if_pos ek] at hx; cases hx
    · rw [if_neg ek] at hx
      unfold adm
      rw [if_neg (fun z => ek (by rw [z]))]
      exact h.one.non x hx
  · rw [valV_put] at h1 h2
    by_cases e1 : k = kQ p
    · by_cases e2 : k' = kQ p
      · rw [e1, e2]
      · rw [if_pos e1] at h1
        rw [if_neg e2] at h2
        cases h1
        exact absurd h2 (nk _)
    · rw [if_neg e1] at h1
      by_cases e2 : k' = kQ p
      · rw [if_pos e2] at h2
        cases h2
        exact absurd h1 (nk _)
      · rw [if_neg e2] at h2
        exact h.one.inj _ _ _ h1 h2
  · obtain ⟨x, b, us, f1, f2, f3, f4, f5⟩ := h.two.ent k v hk
    exact ⟨x, b, us, f1, f2, f3, up b _ (fun z => by rw [z, h.one.at_] at f4; cases f4) f4, f5.ts qh_ts ts⟩
  · rw [valV_put] at h1
    by_cases ek : k = kQ p
    · rw [if_pos ek] at h1
      cases h1
      exact nl _ h2
    · rw [if_neg ek] at h1
      exact h.dj _ _ _ h1 h2
def goL (fs : List Fc) (q : Q3) : List Q3 := (fs.filter fun f => decide (f.1 = q)).map (·.2)
def coL (fs : List Fc) (q : Q3) : List Q3 := (fs.filter fun f => decide (f.2 = q)).map (·.1)
theorem goL_snoc (fs : List Fc) (f : Fc) : goL (fs ++ [f]) = adm (goL fs) f.1 f.2 := by
  funext x
  unfold goL adm
  rw [List.filter_append, List.map_append]
  by_cases e : x = f.1
  · rw [if_pos e]
    simp [e]
  · rw [if_neg e]
    have e' := fun z => e (Eq.symm z)
    simp
    exact e'
theorem coL_snoc (fs : List Fc) (f : Fc) : coL (fs ++ [f]) = adm (coL fs) f.2 f.1 := by
  funext x
  unfold coL adm
  rw [List.filter_append, List.map_append]
  by_cases e : x = f.2
  · rw [if_pos e]
    simp [e]
  · rw [if_neg e]
    have e' := fun z => e (Eq.symm z)
    simp
    exact e'
def nxt (fs : List Fc) (q : Q3) : Option Q3 := match goL fs q, coL fs q with
  | [n], [p] => if detQ p q n = 0 then some n else none
  | _, _ => none
def OnwH (H : Hp) (ko : List (List Key × V)) (nx : Q3 → Option Q3) : Prop := ∀ q, (∀ n, nx q = some n → ∃ a, valV ko (kQ q) = some (.ref a) ∧ QH H a n) ∧ (nx q = none → valV ko (kQ q) = none)
theorem OnwH.ts {H H' : Hp} {ko : List (List Key × V)} {nx : Q3 → Option Q3} (h : OnwH H ko nx) (t : TupSame H H') : OnwH H' ko nx := fun q => ⟨fun n e => by
  obtain ⟨a, h1, h2⟩ := (h q).1 n e
  exact ⟨a, h1, t _ _ h2⟩, (h q).2⟩
def sp_son : Sp := fun vs H Q _ => ∃ (l : Addr) (ys : List V) (fs : List Fc), vs = [.ref l] ∧ H l = some (.lst ys) ∧ ys.length ≤ 200 ∧ LR FeQ H ys fs ∧ FsOk fs ∧ ∀ d ko H', Same H H' → H' d = some (.dT ko) → OnwH H' ko (nxt fs) → Q (.ref d) H'
structure OnwI (H4 H : Hp) (dg d : Addr) (o : Obj) (kg ko : List (List Key × V)) (fs : List Fc) (i : Nat) : Prop where
  fz : H dg = some (.frz o (.dT kg))
  at_ : H d = some (.dT ko)
  keep : ∀ b u, b ≠ dg → b ≠ d → H4 b = some u → H b = some u
  ent : ∀ k v, valV ko k = some v → ∃ q n a, k = kQ q ∧ v = .ref a ∧ QH H a n ∧ nxt fs q = some n
  all : ∀ j kv q, j < i → kg[j]? = some kv → kv.1 = kQ q → (nxt fs q).isSome = true → (valV ko (kQ q)).isSome = true
section
variable {H0 H4 H : Hp} {dg dc d : Addr} {o : Obj} {kg kc ko : List (List Key × V)} {fs : List Fc} {i : Nat} {m n : Q3 → List Q3}
theorem OnwI.lst4 (h : OnwI H4 H dg d o kg ko fs i) (td : TwoD H0 H4 dg dc kg kc m n) (hd : H4 d = some (.dT [])) {a : Addr} {zs : List V} (ha : H4 a = some (.lst zs)) : H a = some (.lst zs) :=
  h.keep a _ (fun z => by rw [z, td.one.at_] at ha; cases ha) (fun z => by rw [z, hd] at ha; cases ha) ha
theorem OnwI.tup4 (h : OnwI H4 H dg d o kg ko fs i) (td : TwoD H0 H4 dg dc kg kc m n) (hd : H4 d = some (.dT [])) {a : Addr} {zs : List V} (ha : H4 a = some (.tup zs)) : H a = some (.tup zs) :=
  h.keep a _ (fun z => by rw [z, td.one.at_] at ha; cases ha) (fun z => by rw [z, hd] at ha; cases ha) ha
theorem OnwI.ts4 (h : OnwI H4 H dg d o kg ko fs i) (td : TwoD H0 H4 dg dc kg kc m n) (hd : H4 d = some (.dT [])) : TupSame H4 H := fun b xs e => h.tup4 td hd e
theorem go_key (h : OneD H0 H4 dg kg m) {kv : List Key × V} (hk : kv ∈ kg) : ∃ q a ys, kv.1 = kQ q ∧ valV kg (kQ q) = some (.ref a) ∧ H4 a = some (.lst ys) ∧ LR QH H4 ys (m q) := by
  have z : (valV kg kv.1).isSome = true := by
    rw [← valV_any]
    exact List.any_eq_true.mpr ⟨kv, hk, by simp⟩
  obtain ⟨v, hv⟩ := Option.isSome_iff_exists.mp z
  obtain ⟨q, a, ys, e1, e2, _, e4, e5⟩ := h.ent _ _ hv
  exact ⟨q, a, ys, e1, by rw [← e1, hv, e2], e4, e5⟩
theorem dget_fz {o : Obj} {b : Addr} {q : Q3} {v : V} (h : H dg = some (.frz o (.dT kg))) (hb : QH H b q) (hv : valV kg (kQ q) = some v) : DGet H dg (.ref b) (some v) := .inr ⟨kg, kQ q, b, .inr ⟨o, h⟩, rfl, hb, hv.symm⟩
theorem OnwI.mono {H' : Hp} (h : OnwI H4 H dg d o kg ko fs i) (g : Same H H') : OnwI H4 H' dg d o kg ko fs i := ⟨g _ _ h.fz, g _ _ h.at_, fun b u n1 n2 e => g _ _ (h.keep b u n1 n2 e), fun k v e => by
  obtain ⟨q, n, a, e1, e2, e3, e4⟩ := h.ent k v e
  exact ⟨q, n, a, e1, e2, g _ _ e3, e4⟩, h.all⟩
theorem OnwI.skip {kv : List Key × V} {q : Q3} (h : OnwI H4 H dg d o kg ko fs i) (hk : kg[i]? = some kv) (hq : kv.1 = kQ q) (hn : nxt fs q = none) : OnwI H4 H dg d o kg ko fs (i + 1) := ⟨h.fz, h.at_, h.keep, h.ent, fun j kv' q' hj hk' hq' hs => by
  by_cases e : j < i
  · exact h.all j kv' q' e hk' hq' hs
  · have e : j = i := by omega
    subst e
    rw [hk] at hk'
    cases hk'
    have eq := kQ_inj (hq.symm.trans hq')
    subst eq
    rw [hn] at hs
    cases hs⟩
theorem OnwI.put {kv : List Key × V} {q n : Q3} {r : Addr} (h : OnwI H4 H dg d o kg ko fs i) (nd : d ≠ dg) (hk : kg[i]? = some kv) (hq : kv.1 = kQ q) (hn : nxt fs q = some n) (hr : QH H r n) : OnwI H4 (upd H d (.dT (putK ko (kQ q) (.ref r)))) dg d o kg (putK ko (kQ q) (.ref r)) fs (i + 1) := by
  refine ⟨by rw [upd_ne nd.symm]; exact h.fz, upd_same, fun b u n1 n2 e => by rw [upd_ne n2]; exact h.keep b u n1 n2 e, fun k v e => ?_, fun j kv' q' hj hk' hq' hs => ?_⟩
  · rw [valV_put] at e
    by_cases ek : k = kQ q
    · rw [if_pos ek] at e
      cases e
      exact ⟨q, n, r, ek, rfl, ts_putD h.at_ _ _ hr, hn⟩
    · rw [if_neg ek] at e
      obtain ⟨q', n', a, e1, e2, e3, e4⟩ := h.ent k v e
      exact ⟨q', n', a, e1, e2, ts_putD h.at_ _ _ e3, e4⟩
  · rw [valV_put]
    by_cases ek : kQ q' = kQ q
    · rw [if_pos ek]; rfl
    · rw [if_neg ek]
      by_cases e : j < i
      · exact h.all j kv' q' e hk' hq' hs
      · have e : j = i := by omega
        subst e
        rw [hk] at hk'
        cases hk'
        exact absurd (hq'.symm.trans hq) ek
theorem nxt_go {q : Q3} (h : (goL fs q).length ≠ 1) : nxt fs q = none := by
  unfold nxt
  split
  · rename_i e _
    rw [e] at h
    exact absurd rfl h
  · rfl
theorem nxt_co {q : Q3} (h : (coL fs q).length ≠ 1) : nxt fs q = none := by
  unfold nxt
  split
  · rename_i e
    rw [e] at h
    exact absurd rfl h
  · rfl
theorem nxt_two {q n p : Q3} (h : goL fs q = [n]) (h' : coL fs q = [p]) : nxt fs q = if detQ p q n = 0 then some n else none := by
  unfold nxt
  rw [h, h']
theorem go_ok {q n : Q3} (fo : FsOk fs) (h : n ∈ goL fs q) : PtOk q ∧ PtOk n := by
  unfold goL at h
  obtain ⟨f, hf, e⟩ := List.mem_map.mp h
  obtain ⟨hf1, hf2⟩ := List.mem_filter.mp hf
  have e2 := of_decide_eq_true hf2
  rw [← e, ← e2]
  exact fo f hf1
theorem co_ok {q p : Q3} (fo : FsOk fs) (h : p ∈ coL fs q) : PtOk p := by
  unfold coL at h
  obtain ⟨f, hf, e⟩ := List.mem_map.mp h
  rw [← e]
  exact (fo f (List.mem_filter.mp hf).1).1
theorem LR.single {H : Hp} {zs : List V} {n : Q3} (h : LR QH H zs [n]) : ∃ r, zs = [.ref r] ∧ QH H r n := by
  obtain ⟨hl, hz⟩ := h
  match zs, hl with
  | [v], _ =>
    obtain ⟨p, a, e1, e2, e3⟩ := hz 0 v rfl
    cases e2
    exact ⟨p, by rw [e1], e3⟩
theorem bd_of {x y w : Int} (h : x.natAbs < 2 ^ 80 ∧ y.natAbs < 2 ^ 80 ∧ w.natAbs < 2 ^ 80) : Bd3 1000 x y w := ⟨lt_mono h.1 (by decide), lt_mono h.2.1 (by decide), lt_mono h.2.2 (by decide)⟩
theorem sgn_zero {z : Int} : sgn z = 0 ↔ z = 0 := by
  unfold sgn
  split
  · omega
  · split <;> omega
end
theorem isD_t {H : Hp} {d : Addr} {kvs : List (List Key × V)} (h : H d = some (.dT kvs)) : IsD H d := .inr ⟨kvs, .inl h⟩
theorem sd_app {H0 H : Hp} {d e a b t : Addr} {kd ke : List (List Key × V)} {m n : Q3 → List Q3} {p q : Q3} {Q : VK} (td : TwoD H0 H d e kd ke m n) (ha : QH H a p) (hb : QH H b q) (hl : kd.length < 500) (lm : (m p).length < 500) (ht : H t = none)
    (k : ∀ (l : Addr) (H1 : Hp) (zs : List V) kd', H1 l = some (.lst zs) → zs.length < sizeLine → kd'.length ≤ kd.length + 1 → TwoD H0 (upd H1 l (.lst (zs ++ [.ref b]))) d e kd' ke (adm m p q) n → Q (.ref l) H1) : rSD d (.ref a) (.ref t) (upd H t (.lst [])) Q := by
  have g := same_new ht (HO.lst [])
  refine ⟨kd, kQ p, a, g _ _ td.one.at_, rfl, g _ _ ha, small1000 (by omega), fun v hv => ?_, fun hv => ?_⟩
  · obtain ⟨p', l, ys, e1, e2, e3, e4, e5⟩ := (td.mono g).one.ent _ _ hv
    subst e2
    have e1 := kQ_inj e1
    subst e1
    exact k l _ ys kd e4 (small1000 (by rw [e5.1]; omega)) (Nat.le_succ _) ((td.mono g).old hv e4 (g _ _ hb))
  · have td' : t ≠ d := fun z => by rw [z, td.one.at_] at ht; cases ht
    exact k t _ [] _ (by rw [upd_ne td']; exact upd_same) (small1000 (by simp)) (length_putK _ _ _) (td.fresh hv ht hb)
theorem goL_len (fs : List Fc) (q : Q3) : (goL fs q).length ≤ fs.length := by unfold goL; rw [List.length_map]; exact List.length_filter_le _ _
theorem coL_len (fs : List Fc) (q : Q3) : (coL fs q).length ≤ fs.length := by unfold coL; rw [List.length_map]; exact List.length_filter_le _ _
theorem ok_straight_on (T : Txt K mg ad fd) : FnOk P w K mg base CX0 4 (ad 8) (fd 8) ["fences"] sp_son := by
  refine T.straight_on.fn.ok sc_straight_on (fun vs H Q E h => ?_) (fun cdv A outer s H vs Q E hr h => ?_)
  · obtain ⟨l, ys, fs, rfl, _⟩ := h
    rfl
  obtain ⟨l, ys, fs, rfl, hl, hn, hp, fo, k⟩ := h
  have qpss6 := @pss6
  have qps_set := @ps_set
  have qpe_dnewT := @pe_dnewT
  have qps_for := @ps_for
  have qpi_list := @pi_list
  have qpv := @pv
  have qpg_tupH := @pg_tupH
  have qpgs_cons := @pgs_cons
  have qpg_name := @pg_name
  have qpgs_nil := @pgs_nil
  have qpss2 := @pss2
  have qps_expr := @ps_expr
  have qpe_bm := @pe_bm
  have qpe_dsd := @pe_dsd
  have qpe_lst := @pe_lst
  have qpa_nil := @pa_nil
  have qpa1 := @pa1
  have qpi_dictT := @pi_dictT
  have qpss_one := @pss_one
  have qps_if := @ps_if
  have qPWpt := @PW.pt
  have qpw_and := @pw_and
  have qpt_cmpR := @pt_cmpR
  have qpe_callB := @pe_callB
  have qpe_dget := @pe_dget
  have qpe_int := @pe_int
  have qpw_and1 := @pw_and1
  have qpe_dget2 := @pe_dget2
  have qpe_call := @pe_call
  have qpa3 := @pa3
  have qpe_ix := @pe_ix
  have qps_dput := @ps_dput
  have qpss_nil := @pss_nil
  have qps_ret := @ps_ret
  generalize @L2.PE = QE, @L2.PT = QT, @L2.PW = QW, @L2.PA = QA, @L2.PS = QS, @L2.PSs = QSs, @L2.PG = QG, @L2.PGs = QGs, @L2.PI = QI, @L2.PO = QO, @L2.PIf = QIf at qpss6 qps_set qpe_dnewT qps_for qpi_list qpv qpg_tupH qpgs_cons qpg_name qpgs_nil qpss2 qps_expr qpe_bm qpe_dsd qpe_lst qpa_nil qpa1 qpi_dictT qpss_one qps_if qPWpt qpw_and qpt_cmpR qpe_callB qpe_dget qpe_int qpw_and1 qpe_dget2 qpe_call qpa3 qpe_ix qps_dput qpss_nil qps_ret ⊢
  refine ⟨_,
    (qpss6
      (qps_set (i := 1) sc_straight_on.nd rfl (Or.inl rfl) qpe_dnewT)
      (qps_set (i := 2) sc_straight_on.nd rfl (Or.inl rfl) qpe_dnewT)
      (qps_for PassesOwn.never rfl (qpi_list (qpv 0)) (qpg_tupH (n := 2) rfl (qpgs_cons (qpg_name (i := 3) sc_straight_on.nd rfl (Or.inl rfl)) (qpgs_cons (qpg_name (i := 4) sc_straight_on.nd rfl (Or.inl rfl)) qpgs_nil))) (qpss2
      (qps_expr (qpe_bm PySem.F.plainAttrs_list PySem.F.slot_list_append PySem.F.type_list_append mt_append (qpe_dsd (hu_of hr) (qpv 2) (qpv 3) (qpe_lst qpa_nil) ⟨rfl, rfl, rfl, rfl⟩) (qpa1 (qpv 4) ns_Name)))
      (qps_expr (qpe_bm PySem.F.plainAttrs_list PySem.F.slot_list_append PySem.F.type_list_append mt_append (qpe_dsd (hu_of hr) (qpv 1) (qpv 4) (qpe_lst qpa_nil) ⟨rfl, rfl, rfl, rfl⟩) (qpa1 (qpv 3) ns_Name)))))
      (qps_set (i := 5) sc_straight_on.nd rfl (Or.inl rfl) qpe_dnewT)
      (qps_for PassesOwn.never rfl (qpi_dictT (qpv 2)) (qpg_name (i := 3) sc_straight_on.nd rfl (Or.inl rfl)) (qpss_one (qps_if (qPWpt (qpw_and (qpt_cmpR op_eq (qpe_callB call_lenH rfl T.b_len bt_len (qpa1 (qpe_dget (hu_of hr) (qpv 2) (qpv 3) (fun _ _ => rfl)) ns_Subscript)) qpe_int (nomark _)) (qpw_and1 (qpt_cmpR op_eq (qpe_callB call_lenH rfl T.b_len bt_len (qpa1 (qpe_dget2 (hu_of hr) (qpv 1) (qpv 3) (qpe_lst qpa_nil) ⟨rfl, rfl, rfl, rfl⟩) ns_Call)) qpe_int (nomark _))))) (qpss_one (qps_if (qpt_cmpR op_eq (qpe_call (ok_turn T) (hr.mono (by decide)) rfl T.turn.mg T.turn.fn.kp T.turn.bn .nil pass0 (qpa3 (qpe_ix ix_listH (qpe_dget (hu_of hr) (qpv 1) (qpv 3) (fun _ _ => rfl)) qpe_int (fun _ _ => rfl)) ns_Subscript (qpv 3) ns_Name (qpe_ix ix_listH (qpe_dget (hu_of hr) (qpv 2) (qpv 3) (fun _ _ => rfl)) qpe_int (fun _ _ => rfl)) ns_Subscript)) qpe_int (nomark _)) (qpss_one (qps_dput (hu_of hr) (qpv 5) (qpv 3) (qpe_ix ix_listH (qpe_dget (hu_of hr) (qpv 2) (qpv 3) (fun _ _ => rfl)) qpe_int (fun _ _ => rfl)) rfl)) qpss_nil)) qpss_nil)))
      (qps_ret (qpv 5)))
    , ?_⟩
  clear  qpss6 qps_set qpe_dnewT qps_for qpi_list qpv qpg_tupH qpgs_cons qpg_name qpgs_nil qpss2 qps_expr qpe_bm qpe_dsd qpe_lst qpa_nil qpa1 qpi_dictT qpss_one qps_if qPWpt qpw_and qpt_cmpR qpe_callB qpe_dget qpe_int qpw_and1 qpe_dget2 qpe_call qpa3 qpe_ix qps_dput qpss_nil qps_ret QE QT QW QA QS QSs QG QGs QI QO QIf
  simp only [tDNewT, tSeq, tNext, tRet, tRetN, tIfS, tAsg, gName, tDrop, tVar, tC, tOp, tUn, rI, rI0, rU, rEq, rNe, tTest, tB, tNot, tAnd, tOr, tAndV, tOrV, tNotV, tIf, tCB, tCall, tNil, tCons, tTup, tLst, gTup, gCons, gNil, L2.start, rIsi, rIxT, rIxL, cx_K, tyN_non, tyN_bl, tyN_int, tyN_str, isi_ii, isi_ib, isi_it, isi_il, isi_bi, isi_bb, isi_tt, isi_ni, isi_si, isi_ti, isi_li, isi_di, isi_ll, scal_ii, scal_bb, sz0, sz1, sz2, sz3, sz4, List.map_cons, List.map_nil, List.length_cons, List.length_nil, List.replicate, List.cons_append, List.nil_append, List.append_nil, List.getElem?_cons_zero, List.getElem?_cons_succ, List.set_cons_zero, List.set_cons_succ, Option.some.injEq, V.int.injEq, V.bl.injEq, V.ref.injEq, V.ty.injEq, List.cons.injEq, and_true, true_and, exists_eq_left, exists_eq_left', exists_and_left, exists_and_right, exists_eq, exists_eq', and_assoc, Nat.reduceAdd, Nat.reduceSub, Bool.not_true, Bool.not_false, Bool.false_eq_true, if_true, if_false, reduceIte, Nat.zero_add, decide_true, decide_false, selC, comp_K, tYes, Option.join_some, rIxTH, rIxLH, rLenH, rIsiF, at0, at1, at2, at3, at4, at5, at6, at7, at8, HO.tup.injEq, HO.lst.injEq, reduceCtorEq, false_or, or_false, tyF_non, tyF_bl, tyF_int, tyF_str, exists_const, Int.reduceAdd, Int.reduceMul, Int.reduceSub, gSub, rSetL, tSl, tPart, tNoPart, rSlH, upd_same, upd_upd, rIntB, rListH, tBM, tBM0, rAppend, rClear, tPar, gTupH]
  intro dc hdc
  have g1 := same_new hdc (HO.dT [])
  have hc1 : upd H dc (HO.dT []) dc = some (HO.dT []) := upd_same
  generalize upd H dc (HO.dT []) = H1 at *
  intro dg hdg
  have g2 := same_new hdg (HO.dT [])
  have hg2 : upd H1 dg (HO.dT []) dg = some (HO.dT []) := upd_same
  generalize upd H1 dg (HO.dT []) = H2 at *
  have n2 : TwoD H H2 dg dc [] [] (goL []) (coL []) := ⟨g1.trans g2, ⟨g1.free hdg, hg2, fun k v e => (by cases e), fun q _ => rfl, fun k k' a e => (by cases e)⟩, ⟨hdc, g2 _ _ hc1, fun k v e => (by cases e), fun q _ => rfl, fun k k' a e => (by cases e)⟩, fun k k' a e => (by cases e), (ne_of_none hc1 hdg).symm⟩
  refine tFor_mk ?_
  simp only [iList, tSeq, tNext, tRet, tRetN, tIfS, tAsg, gName, tDrop, tVar, tC, tOp, tUn, rI, rI0, rU, rEq, rNe, tTest, tB, tNot, tAnd, tOr, tAndV, tOrV, tNotV, tIf, tCB, tCall, tNil, tCons, tTup, tLst, gTup, gCons, gNil, L2.start, rIsi, rIxT, rIxL, cx_K, tyN_non, tyN_bl, tyN_int, tyN_str, isi_ii, isi_ib, isi_it, isi_il, isi_bi, isi_bb, isi_tt, isi_ni, isi_si, isi_ti, isi_li, isi_di, isi_ll, scal_ii, scal_bb, sz0, sz1, sz2, sz3, sz4, List.map_cons, List.map_nil, List.length_cons, List.length_nil, List.replicate, List.cons_append, List.nil_append, List.append_nil, List.getElem?_cons_zero, List.getElem?_cons_succ, List.set_cons_zero, List.set_cons_succ, Option.some.injEq, V.int.injEq, V.bl.injEq, V.ref.injEq, V.ty.injEq, List.cons.injEq, and_true, true_and, exists_eq_left, exists_eq_left', exists_and_left, exists_and_right, exists_eq, exists_eq', and_assoc, Nat.reduceAdd, Nat.reduceSub, Bool.not_true, Bool.not_false, Bool.false_eq_true, if_true, if_false, reduceIte, Nat.zero_add, decide_true, decide_false, selC, comp_K, tYes, Option.join_some, rIxTH, rIxLH, rLenH, rIsiF, at0, at1, at2, at3, at4, at5, at6, at7, at8, HO.tup.injEq, HO.lst.injEq, reduceCtorEq, false_or, or_false, tyF_non, tyF_bl, tyF_int, tyF_str, exists_const, Int.reduceAdd, Int.reduceMul, Int.reduceSub, gSub, rSetL, tSl, tPart, tNoPart, rSlH, upd_same, upd_upd, rIntB, rListH, tBM, tBM0, rAppend, rClear, tPar, gTupH]
  refine ⟨⟨_, .of (n2.same _ _ hl)⟩, ?_⟩
  refine for_list (K := K) (a := l) (xs := ys) (fun i σ H' => ∃ (kg kc : List (List Key × V)) (o1 o2 : Option V), σ = [some (.ref l), some (.ref dc), some (.ref dg), o1, o2, none] ∧ kg.length ≤ i ∧ kc.length ≤ i ∧ TwoD H H' dg dc kg kc (goL (fs.take i)) (coL (fs.take i))) ⟨[], [], none, none, rfl, Nat.le_refl _, Nat.le_refl _, by rw [List.take_zero]; exact n2⟩ (fun i σ H' _ iv => by
    obtain ⟨kg, kc, o1, o2, _, _, _, h⟩ := iv
    exact .of (h.same _ _ hl)) ?_ ?_
  · rintro i v σ H3 hi ⟨kg, kc, o1, o2, rfl, lg, lc, td⟩
    obtain ⟨p, f, rfl, hf, a, b, hq, ha, hb⟩ := hp.2 i v hi
    have hi' := (List.getElem?_eq_some_iff.mp hi).1
    have hq3 := td.same _ _ hq
    have ha3 := td.same _ _ ha
    have hb3 := td.same _ _ hb
    rw [List.take_add_one, hf]
    show _
    simp only [Option.toList, goL_snoc, coL_snoc]
    simp only [tSeq, tNext, tRet, tRetN, tIfS, tAsg, gName, tDrop, tVar, tC, tOp, tUn, rI, rI0, rU, rEq, rNe, tTest, tB, tNot, tAnd, tOr, tAndV, tOrV, tNotV, tIf, tCB, tCall, tNil, tCons, tTup, tLst, gTup, gCons, gNil, L2.start, rIsi, rIxT, rIxL, cx_K, tyN_non, tyN_bl, tyN_int, tyN_str, isi_ii, isi_ib, isi_it, isi_il, isi_bi, isi_bb, isi_tt, isi_ni, isi_si, isi_ti, isi_li, isi_di, isi_ll, scal_ii, scal_bb, sz0, sz1, sz2, sz3, sz4, List.map_cons, List.map_nil, List.length_cons, List.length_nil, List.replicate, List.cons_append, List.nil_append, List.append_nil, List.getElem?_cons_zero, List.getElem?_cons_succ, List.set_cons_zero, List.set_cons_succ, Option.some.injEq, V.int.injEq, V.bl.injEq, V.ref.injEq, V.ty.injEq, List.cons.injEq, and_true, true_and, exists_eq_left, exists_eq_left', exists_and_left, exists_and_right, exists_eq, exists_eq', and_assoc, Nat.reduceAdd, Nat.reduceSub, Bool.not_true, Bool.not_false, Bool.false_eq_true, if_true, if_false, reduceIte, Nat.zero_add, decide_true, decide_false, selC, comp_K, tYes, Option.join_some, rIxTH, rIxLH, rLenH, rIsiF, at0, at1, at2, at3, at4, at5, at6, at7, at8, HO.tup.injEq, HO.lst.injEq, reduceCtorEq, false_or, or_false, tyF_non, tyF_bl, tyF_int, tyF_str, exists_const, Int.reduceAdd, Int.reduceMul, Int.reduceSub, gSub, rSetL, tSl, tPart, tNoPart, rSlH, upd_same, upd_upd, rIntB, rListH, tBM, tBM0, rAppend, rClear, tPar, gTupH, tDSd, hq3]
    have l1 := goL_len (fs.take i) f.1
    have l2 := coL_len (fs.take i) f.2
    have l3 : (fs.take i).length ≤ i := by rw [List.length_take]; exact Nat.min_le_left _ _
    refine ⟨isD_t td.one.at_, fun t ht => sd_app td ha3 hb3 (by omega) (by omega) ht fun l1 H4 zs kg' h4 z4 lg' td4 => ⟨tyV_of h4, l1, rfl, zs, h4, z4, isD_t td4.two.at_, fun t' ht' => sd_app td4.swap (td4.same _ _ hb) (td4.same _ _ ha) (by omega) (by omega) ht' fun l2 H5 us kc' h5 z5 lc' td5 => ⟨tyV_of h5, l2, rfl, us, h5, z5, kg', by omega, kc', by omega, td5.swap⟩⟩⟩
  · rintro σ H3 ⟨kg, kc, o1, o2, rfl, lg, lc, td⟩
    rw [List.take_of_length_le (by rw [hp.1]; exact Nat.le_refl _)] at td
    simp only [tDNewT, tSeq, tNext, tRet, tRetN, tIfS, tAsg, gName, tDrop, tVar, tC, tOp, tUn, rI, rI0, rU, rEq, rNe, tTest, tB, tNot, tAnd, tOr, tAndV, tOrV, tNotV, tIf, tCB, tCall, tNil, tCons, tTup, tLst, gTup, gCons, gNil, L2.start, rIsi, rIxT, rIxL, cx_K, tyN_non, tyN_bl, tyN_int, tyN_str, isi_ii, isi_ib, isi_it, isi_il, isi_bi, isi_bb, isi_tt, isi_ni, isi_si, isi_ti, isi_li, isi_di, isi_ll, scal_ii, scal_bb, sz0, sz1, sz2, sz3, sz4, List.map_cons, List.map_nil, List.length_cons, List.length_nil, List.replicate, List.cons_append, List.nil_append, List.append_nil, List.getElem?_cons_zero, List.getElem?_cons_succ, List.set_cons_zero, List.set_cons_succ, Option.some.injEq, V.int.injEq, V.bl.injEq, V.ref.injEq, V.ty.injEq, List.cons.injEq, and_true, true_and, exists_eq_left, exists_eq_left', exists_and_left, exists_and_right, exists_eq, exists_eq', and_assoc, Nat.reduceAdd, Nat.reduceSub, Bool.not_true, Bool.not_false, Bool.false_eq_true, if_true, if_false, reduceIte, Nat.zero_add, decide_true, decide_false, selC, comp_K, tYes, Option.join_some, rIxTH, rIxLH, rLenH, rIsiF, at0, at1, at2, at3, at4, at5, at6, at7, at8, HO.tup.injEq, HO.lst.injEq, reduceCtorEq, false_or, or_false, tyF_non, tyF_bl, tyF_int, tyF_str, exists_const, Int.reduceAdd, Int.reduceMul, Int.reduceSub, gSub, rSetL, tSl, tPart, tNoPart, rSlH, upd_same, upd_upd, rIntB, rListH, tBM, tBM0, rAppend, rClear, tPar, gTupH]
    intro d hd
    have g4 := same_new hd (HO.dT [])
    have td4 := td.mono g4
    have hd4 : upd H3 d (HO.dT []) d = some (HO.dT []) := upd_same
    have hH4 : H d = none := td.same.free hd
    generalize upd H3 d (HO.dT []) = H4 at *
    refine tFor_mk ?_
    simp only [iDictT, tSeq, tNext, tRet, tRetN, tIfS, tAsg, gName, tDrop, tVar, tC, tOp, tUn, rI, rI0, rU, rEq, rNe, tTest, tB, tNot, tAnd, tOr, tAndV, tOrV, tNotV, tIf, tCB, tCall, tNil, tCons, tTup, tLst, gTup, gCons, gNil, L2.start, rIsi, rIxT, rIxL, cx_K, tyN_non, tyN_bl, tyN_int, tyN_str, isi_ii, isi_ib, isi_it, isi_il, isi_bi, isi_bb, isi_tt, isi_ni, isi_si, isi_ti, isi_li, isi_di, isi_ll, scal_ii, scal_bb, sz0, sz1, sz2, sz3, sz4, List.map_cons, List.map_nil, List.length_cons, List.length_nil, List.replicate, List.cons_append, List.nil_append, List.append_nil, List.getElem?_cons_zero, List.getElem?_cons_succ, List.set_cons_zero, List.set_cons_succ, Option.some.injEq, V.int.injEq, V.bl.injEq, V.ref.injEq, V.ty.injEq, List.cons.injEq, and_true, true_and, exists_eq_left, exists_eq_left', exists_and_left, exists_and_right, exists_eq, exists_eq', and_assoc, Nat.reduceAdd, Nat.reduceSub, Bool.not_true, Bool.not_false, Bool.false_eq_true, if_true, if_false, reduceIte, Nat.zero_add, decide_true, decide_false, selC, comp_K, tYes, Option.join_some, rIxTH, rIxLH, rLenH, rIsiF, at0, at1, at2, at3, at4, at5, at6, at7, at8, HO.tup.injEq, HO.lst.injEq, reduceCtorEq, false_or, or_false, tyF_non, tyF_bl, tyF_int, tyF_str, exists_const, Int.reduceAdd, Int.reduceMul, Int.reduceSub, gSub, rSetL, tSl, tPart, tNoPart, rSlH, upd_same, upd_upd, rIntB, rListH, tBM, tBM0, rAppend, rClear, tPar, gTupH]
    refine ⟨kg, td4.one.at_, fun o bs lb hbs => ?_⟩
    have nd : d ≠ dg := fun z => by rw [z, td.one.at_] at hd; cases hd
    have ndc : dc ≠ d := fun z => by rw [← z, td.two.at_] at hd; cases hd
    refine forW_dict (fun i σ H' => ∃ (ko : List (List Key × V)) (o1 : Option V), σ = [some (.ref l), some (.ref dc), some (.ref dg), o1, o2, some (.ref d)] ∧ ko.length ≤ i ∧ OnwI H4 H' dg d o kg ko fs i)
      ⟨[], o1, rfl, Nat.le_refl _, ?_⟩ (fun i σ H' _ iv => by
        obtain ⟨ko, o1, _, _, h⟩ := iv
        exact h.fz) ?_ ?_
    · exact ⟨upd_same, by rw [upd_ne nd]; exact hd4, fun b u n1 n2 e => by rw [upd_ne n1]; exact e, fun k v e => (by cases e), fun j kv q hj => by omega⟩
    · rintro i b σ H5 hb ⟨ko, o1, rfl, lo, iv⟩
      have hi := (List.getElem?_eq_some_iff.mp hb).1
      obtain ⟨q, a, zs, hka, hva, ha4, hz4⟩ := go_key td4.one (kv := kg[i]'(by omega)) (List.getElem_mem _)
      have hbt := hbs i b _ hb (List.getElem?_eq_getElem (by omega))
      rw [hka] at hbt
      have ha5 := iv.lst4 td4 hd4 ha4
      have hb5 : QH H5 b q := iv.tup4 td4 hd4 hbt
      have hz5 := hz4.ts qh_ts (iv.ts4 td4 hd4)
      have hb5' : H5 b = some (.tup [.int q.x, .int q.y, .int q.w]) := hb5
      simp only [tSeq, tNext, tRet, tRetN, tIfS, tAsg, gName, tDrop, tVar, tC, tOp, tUn, rI, rI0, rU, rEq, rNe, tTest, tB, tNot, tAnd, tOr, tAndV, tOrV, tNotV, tIf, tCB, tCall, tNil, tCons, tTup, tLst, gTup, gCons, gNil, L2.start, rIsi, rIxT, rIxL, cx_K, tyN_non, tyN_bl, tyN_int, tyN_str, isi_ii, isi_ib, isi_it, isi_il, isi_bi, isi_bb, isi_tt, isi_ni, isi_si, isi_ti, isi_li, isi_di, isi_ll, scal_ii, scal_bb, sz0, sz1, sz2, sz3, sz4, List.map_cons, List.map_nil, List.length_cons, List.length_nil, List.replicate, List.cons_append, List.nil_append, List.append_nil, List.getElem?_cons_zero, List.getElem?_cons_succ, List.set_cons_zero, List.set_cons_succ, Option.some.injEq, V.int.injEq, V.bl.injEq, V.ref.injEq, V.ty.injEq, List.cons.injEq, and_true, true_and, exists_eq_left, exists_eq_left', exists_and_left, exists_and_right, exists_eq, exists_eq', and_assoc, Nat.reduceAdd, Nat.reduceSub, Bool.not_true, Bool.not_false, Bool.false_eq_true, if_true, if_false, reduceIte, Nat.zero_add, decide_true, decide_false, selC, comp_K, tYes, Option.join_some, rIxTH, rIxLH, rLenH, rIsiF, at0, at1, at2, at3, at4, at5, at6, at7, at8, HO.tup.injEq, HO.lst.injEq, reduceCtorEq, false_or, or_false, tyF_non, tyF_bl, tyF_int, tyF_str, exists_const, Int.reduceAdd, Int.reduceMul, Int.reduceSub, gSub, rSetL, tSl, tPart, tNoPart, rSlH, upd_same, upd_upd, rIntB, rListH, tBM, tBM0, rAppend, rClear, tPar, gTupH, tDGet, tDGet2, sDPut, hb5']
      have hk0 : kg[i]? = some kg[i] := List.getElem?_eq_getElem (by omega)
      have hc5 : H5 dc = some (.dT kc) := iv.keep _ _ td4.ne.symm ndc td4.two.at_
      have lz := hz5.1
      refine ⟨_, dget_fz iv.fz hb5 hva, a, rfl, zs, .inl ha5, ite2 (fun c1 => ?_) fun c1 => ⟨ko, by omega, iv.skip hk0 hka (nxt_go fun z => c1 (decide_eq_true (by omega)))⟩⟩
      have c1' : (goL fs q).length = 1 := by have := of_decide_eq_true c1; omega
      obtain ⟨n, hgo⟩ := List.length_eq_one_iff.mp c1'
      rw [hgo] at hz5
      obtain ⟨r, hzr, hr5⟩ := hz5.single
      subst hzr
      refine ⟨isD_t hc5, fun t ht => ?_⟩
      have g6 := same_new ht (HO.lst [])
      have ht6 : upd H5 t (HO.lst []) t = some (HO.lst []) := upd_same
      have iv6 := iv.mono g6
      have hb6 : QH _ b q := g6 _ _ hb5
      have hc6 := g6 _ _ hc5
      generalize upd H5 t (HO.lst []) = H6 at *
      refine ⟨_, .t (k := kQ q) hc6 hb6, ?_⟩
      cases hvc : valV kc (kQ q) with
      | none =>
        refine ⟨t, rfl, [], .inl ht6, ?_⟩
        have : coL fs q = [] := td4.two.non q hvc
        exact iteF ⟨ko, by omega, iv6.skip hk0 hka (nxt_co (by rw [this]; decide))⟩
      | some v =>
        obtain ⟨q', a2, us, f1, f2, _, f4, f5⟩ := td4.two.ent _ _ hvc
        have f1 := kQ_inj f1
        subst f1
        subst f2
        have ha2 := iv6.lst4 td4 hd4 f4
        have hu6 := f5.ts qh_ts (iv6.ts4 td4 hd4)
        have lu := hu6.1
        refine ⟨a2, rfl, us, .inl ha2, ite2 (fun c2 => ?_) fun c2 => ⟨ko, by omega, iv6.skip hk0 hka (nxt_co fun z => c2 (decide_eq_true (by omega)))⟩⟩
        have c2' : (coL fs q).length = 1 := by have := of_decide_eq_true c2; omega
        obtain ⟨pp, hco⟩ := List.length_eq_one_iff.mp c2'
        rw [hco] at hu6
        obtain ⟨r2, hur, hr2⟩ := hu6.single
        subst hur
        have hr6 : QH H6 r n := g6 _ _ hr5
        obtain ⟨oq, on⟩ := go_ok fo (show n ∈ goL fs q by rw [hgo]; simp)
        have op := co_ok fo (show pp ∈ coL fs q by rw [hco]; simp)
        refine ⟨_, by rw [← hvc]; exact .t (k := kQ q) hc6 hb6, a2, rfl, _, ha2, _, rfl, _, dget_fz iv6.fz hb6 hva, a, rfl, _, g6 _ _ ha5, _, rfl, r2, b, r, pp.x, pp.y, pp.w, q.x, q.y, q.w, n.x, n.y, n.w, rfl, ⟨hr2, bd_of op.2⟩, ⟨hb6, bd_of oq.2⟩, ⟨hr6, (bd_of on.2).mono (by decide)⟩, fun H7 g7 => ?_⟩
        have iv7 := iv6.mono g7
        have hb7 : QH H7 b q := g7 _ _ hb6
        have nt := nxt_two hgo hco
        have dt : detQ pp q n = det3 pp.x pp.y pp.w q.x q.y q.w n.x n.y n.w := rfl
        refine ⟨rfl, ite2 (fun c3 => ?_) fun c3 => ⟨ko, by omega, iv7.skip hk0 hka ?_⟩⟩
        · have z : sgn (det3 pp.x pp.y pp.w q.x q.y q.w n.x n.y n.w) = 0 := by
            have e := of_decide_eq_true c3
            cases e' : sgn (det3 pp.x pp.y pp.w q.x q.y q.w n.x n.y n.w) <;> rw [e'] at e <;> cases e <;> rfl
          rw [dt, sgn_zero.mp z, if_pos rfl] at nt
          exact ⟨_, dget_fz iv7.fz hb7 hva, a, rfl, _, g7 _ _ (g6 _ _ ha5), _, rfl, _, .t (k := kQ q) iv7.at_ hb7 (small1000 (by omega)), _, Nat.le_trans (length_putK _ _ _) (by omega), iv7.put nd hk0 hka nt (g7 _ _ hr6)⟩
        · rw [nt, dt, if_neg]
          intro z
          exact c3 (decide_eq_true (by rw [sgn_zero.mpr z]))
    · rintro σ H5 ⟨ko, o1, rfl, lo, iv⟩
      simp only [tSeq, tNext, tRet, tRetN, tIfS, tAsg, gName, tDrop, tVar, tC, tOp, tUn, rI, rI0, rU, rEq, rNe, tTest, tB, tNot, tAnd, tOr, tAndV, tOrV, tNotV, tIf, tCB, tCall, tNil, tCons, tTup, tLst, gTup, gCons, gNil, L2.start, rIsi, rIxT, rIxL, cx_K, tyN_non, tyN_bl, tyN_int, tyN_str, isi_ii, isi_ib, isi_it, isi_il, isi_bi, isi_bb, isi_tt, isi_ni, isi_si, isi_ti, isi_li, isi_di, isi_ll, scal_ii, scal_bb, sz0, sz1, sz2, sz3, sz4, List.map_cons, List.map_nil, List.length_cons, List.length_nil, List.replicate, List.cons_append, List.nil_append, List.append_nil, List.getElem?_cons_zero, List.getElem?_cons_succ, List.set_cons_zero, List.set_cons_succ, Option.some.injEq, V.int.injEq, V.bl.injEq, V.ref.injEq, V.ty.injEq, List.cons.injEq, and_true, true_and, exists_eq_left, exists_eq_left', exists_and_left, exists_and_right, exists_eq, exists_eq', and_assoc, Nat.reduceAdd, Nat.reduceSub, Bool.not_true, Bool.not_false, Bool.false_eq_true, if_true, if_false, reduceIte, Nat.zero_add, decide_true, decide_false, selC, comp_K, tYes, Option.join_some, rIxTH, rIxLH, rLenH, rIsiF, at0, at1, at2, at3, at4, at5, at6, at7, at8, HO.tup.injEq, HO.lst.injEq, reduceCtorEq, false_or, or_false, tyF_non, tyF_bl, tyF_int, tyF_str, exists_const, Int.reduceAdd, Int.reduceMul, Int.reduceSub, gSub, rSetL, tSl, tPart, tNoPart, rSlH, upd_same, upd_upd, rIntB, rListH, tBM, tBM0, rAppend, rClear, tPar, gTupH]
      refine k d ko H5 (fun b u e => iv.keep b u (fun z => by rw [z, td4.one.new] at e; cases e) (fun z => by rw [z, hH4] at e; cases e) (td4.same _ _ e)) iv.at_ fun q => ⟨fun n hn => ?_, fun hn => ?_⟩
      · have ne : goL fs q ≠ [] := fun z => by rw [nxt_go (by rw [z]; decide)] at hn; cases hn
        have hs : valV kg (kQ q) ≠ none := fun z => ne (td4.one.non q z)
        have hm : (kg.any fun kv => decide (kv.1 = kQ q)) = true := by
          rw [valV_any]
          cases e : valV kg (kQ q) with
          | none => exact absurd e hs
          | some v => rfl
        obtain ⟨kv, hkv, e⟩ := List.any_eq_true.mp hm
        obtain ⟨j, hj, ej⟩ := List.mem_iff_getElem.mp hkv
        have z := iv.all j kv q (by omega) (by rw [List.getElem?_eq_getElem hj, ej]) (of_decide_eq_true e) (by rw [hn]; rfl)
        obtain ⟨v, hv⟩ := Option.isSome_iff_exists.mp z
        obtain ⟨q', n', a, e1, e2, e3, e4⟩ := iv.ent _ _ hv
        have e1 := kQ_inj e1
        subst e1
        rw [hn] at e4
        cases e4
        exact ⟨a, by rw [hv, e2], e3⟩
      · cases hv : valV ko (kQ q) with
        | none => rfl
        | some v =>
          obtain ⟨q', n', a, e1, e2, e3, e4⟩ := iv.ent _ _ hv
          have e1 := kQ_inj e1
          subst e1
          rw [hn] at e4
          cases e4
def fol (nx : Q3 → Option Q3) : Nat → Q3 → Q3
  | 0, q => q
  | n + 1, q => match nx q with
    | some q' => fol nx n q'
    | none => q
theorem fol_none {nx : Q3 → Option Q3} {q : Q3} (h : nx q = none) : ∀ n, fol nx n q = q
  | 0 => rfl
  | n + 1 => by unfold fol; rw [h]
def Stops (fs : List Fc) : Prop := ∀ f, f ∈ fs → nxt fs f.1 = none → nxt fs (fol (nxt fs) 10 f.2) = none
def told1 (nx : Q3 → Option Q3) (f : Fc) : List Fc := if (nx f.1).isNone = true then [(f.1, fol nx 10 f.2)] else []
def toldL (fs : List Fc) : List Fc := fs.flatMap (told1 (nxt fs))
theorem told_len (nx : Q3 → Option Q3) : ∀ fs : List Fc, (fs.flatMap (told1 nx)).length ≤ fs.length
  | [] => Nat.le_refl _
  | f :: fs => by
    have := told_len nx fs
    have h1 : (told1 nx f).length ≤ 1 := by unfold told1; split <;> simp
    rw [List.flatMap_cons, List.length_append, List.length_cons]
    omega
theorem OnwH.is {H : Hp} {ko : List (List Key × V)} {nx : Q3 → Option Q3} (h : OnwH H ko nx) (q : Q3) : (valV ko (kQ q)).isSome = (nx q).isSome := by
  cases e : nx q with
  | none => rw [(h q).2 e]; rfl
  | some n =>
    obtain ⟨a, h1, _⟩ := (h q).1 n e
    rw [h1]
    rfl
def sp_str : Sp := fun vs H Q _ => ∃ (l : Addr) (ys : List V) (fs : List Fc), vs = [.ref l] ∧ H l = some (.lst ys) ∧ ys.length ≤ 200 ∧ LR FeQ H ys fs ∧ FsOk fs ∧ Stops fs ∧ ∀ D zs H', H D = none → Same H H' → H' D = some (.lst zs) → LR FeQ H' zs (toldL fs) → Q (.ref D) H'
theorem ok_straightened (T : Txt K mg ad fd) : FnOk P w K mg base CX0 5 (ad 7) (fd 7) ["fences"] sp_str := by
  refine T.straightened.fn.ok sc_straightened (fun vs H Q E h => ?_) (fun cdv A outer s H vs Q E hr h => ?_)
  · obtain ⟨l, ys, fs, rfl, _⟩ := h
    rfl
  obtain ⟨l, ys, fs, rfl, hl, hn, hp, fo, so, k⟩ := h
  have qpss4 := @pss4
  have qps_set := @ps_set
  have qpe_call := @pe_call
  have qpa1 := @pa1
  have qpv := @pv
  have qpe_lst := @pe_lst
  have qpa_nil := @pa_nil
  have qps_for := @ps_for
  have qpi_list := @pi_list
  have qpg_tupH := @pg_tupH
  have qpgs_cons := @pgs_cons
  have qpg_name := @pg_name
  have qpgs_nil := @pgs_nil
  have qpss_one := @pss_one
  have qps_if := @ps_if
  have qpt_cmp := @pt_cmp
  have qpc_dnotin := @pc_dnotin
  have qpss3 := @pss3
  have qps_while := @ps_while
  have qpc_din := @pc_din
  have qpe_dget := @pe_dget
  have qps_expr := @ps_expr
  have qpe_bm := @pe_bm
  have qpe_tup := @pe_tup
  have qpa2 := @pa2
  have qpss_nil := @pss_nil
  have qps_ret := @ps_ret
  generalize @L2.PE = QE, @L2.PT = QT, @L2.PW = QW, @L2.PA = QA, @L2.PS = QS, @L2.PSs = QSs, @L2.PG = QG, @L2.PGs = QGs, @L2.PI = QI, @L2.PO = QO, @L2.PIf = QIf, @L2.PC = QC, @L2.PK = QK at qpss4 qps_set qpe_call qpa1 qpv qpe_lst qpa_nil qps_for qpi_list qpg_tupH qpgs_cons qpg_name qpgs_nil qpss_one qps_if qpt_cmp qpc_dnotin qpss3 qps_while qpc_din qpe_dget qps_expr qpe_bm qpe_tup qpa2 qpss_nil qps_ret ⊢
  refine ⟨_,
    (qpss4
      (qps_set (i := 1) sc_straightened.nd rfl (Or.inl rfl) (qpe_call (ok_straight_on T) (hr.mono (by decide)) rfl T.straight_on.mg T.straight_on.fn.kp T.straight_on.bn .nil pass0 (qpa1 (qpv 0) ns_Name)))
      (qps_set (i := 2) sc_straightened.nd rfl (Or.inl rfl) (qpe_lst qpa_nil))
      (qps_for PassesOwn.never rfl (qpi_list (qpv 0)) (qpg_tupH (n := 2) rfl (qpgs_cons (qpg_name (i := 3) sc_straightened.nd rfl (Or.inl rfl)) (qpgs_cons (qpg_name (i := 4) sc_straightened.nd rfl (Or.inl rfl)) qpgs_nil))) (qpss_one (qps_if (qpt_cmp (qpc_dnotin (hu_of hr) (qpv 3) (qpv 1))) (qpss3
      (qps_set (i := 5) sc_straightened.nd rfl (Or.inl rfl) (qpv 4))
      (qps_while PassesOwn.never (qpt_cmp (qpc_din (hu_of hr) (qpv 5) (qpv 1))) (qpss_one (qps_set (i := 5) sc_straightened.nd rfl (Or.inl rfl) (qpe_dget (hu_of hr) (qpv 1) (qpv 5) (fun _ _ => rfl)))))
      (qps_expr (qpe_bm PySem.F.plainAttrs_list PySem.F.slot_list_append PySem.F.type_list_append mt_append (qpv 2) (qpa1 (qpe_tup (qpa2 (qpv 3) ns_Name (qpv 5) ns_Name)) ns_Tuple)))) qpss_nil)))
      (qps_ret (qpv 2)))
    , ?_⟩
  clear  qpss4 qps_set qpe_call qpa1 qpv qpe_lst qpa_nil qps_for qpi_list qpg_tupH qpgs_cons qpg_name qpgs_nil qpss_one qps_if qpt_cmp qpc_dnotin qpss3 qps_while qpc_din qpe_dget qps_expr qpe_bm qpe_tup qpa2 qpss_nil qps_ret QE QT QW QA QS QSs QG QGs QI QO QIf QC QK
  simp only [tSeq, tNext, tRet, tRetN, tIfS, tAsg, gName, tDrop, tVar, tC, tOp, tUn, rI, rI0, rU, rEq, rNe, tTest, tB, tNot, tAnd, tOr, tAndV, tOrV, tNotV, tIf, tCB, tCall, tNil, tCons, tTup, tLst, gTup, gCons, gNil, L2.start, rIsi, rIxT, rIxL, cx_K, tyN_non, tyN_bl, tyN_int, tyN_str, isi_ii, isi_ib, isi_it, isi_il, isi_bi, isi_bb, isi_tt, isi_ni, isi_si, isi_ti, isi_li, isi_di, isi_ll, scal_ii, scal_bb, sz0, sz1, sz2, sz3, sz4, List.map_cons, List.map_nil, List.length_cons, List.length_nil, List.replicate, List.cons_append, List.nil_append, List.append_nil, List.getElem?_cons_zero, List.getElem?_cons_succ, List.set_cons_zero, List.set_cons_succ, Option.some.injEq, V.int.injEq, V.bl.injEq, V.ref.injEq, V.ty.injEq, List.cons.injEq, and_true, true_and, exists_eq_left, exists_eq_left', exists_and_left, exists_and_right, exists_eq, exists_eq', and_assoc, Nat.reduceAdd, Nat.reduceSub, Bool.not_true, Bool.not_false, Bool.false_eq_true, if_true, if_false, reduceIte, Nat.zero_add, decide_true, decide_false, selC, comp_K, tYes, Option.join_some, rIxTH, rIxLH, rLenH, rIsiF, at0, at1, at2, at3, at4, at5, at6, at7, at8, HO.tup.injEq, HO.lst.injEq, reduceCtorEq, false_or, or_false, tyF_non, tyF_bl, tyF_int, tyF_str, exists_const, Int.reduceAdd, Int.reduceMul, Int.reduceSub, gSub, rSetL, tSl, tPart, tNoPart, rSlH, upd_same, upd_upd, rIntB, rListH, tBM, tBM0, rAppend, rClear, tPar, gTupH]
  refine ⟨l, ys, fs, rfl, hl, hn, hp, fo, fun d ko H1 g1 hd1 on => fun D hD => ?_⟩
  have g2 := g1.trans (same_new hD (HO.lst []))
  have nDd : d ≠ D := ne_of_none hd1 hD
  refine tFor_mk ?_
  simp only [iList, tSeq, tNext, tRet, tRetN, tIfS, tAsg, gName, tDrop, tVar, tC, tOp, tUn, rI, rI0, rU, rEq, rNe, tTest, tB, tNot, tAnd, tOr, tAndV, tOrV, tNotV, tIf, tCB, tCall, tNil, tCons, tTup, tLst, gTup, gCons, gNil, L2.start, rIsi, rIxT, rIxL, cx_K, tyN_non, tyN_bl, tyN_int, tyN_str, isi_ii, isi_ib, isi_it, isi_il, isi_bi, isi_bb, isi_tt, isi_ni, isi_si, isi_ti, isi_li, isi_di, isi_ll, scal_ii, scal_bb, sz0, sz1, sz2, sz3, sz4, List.map_cons, List.map_nil, List.length_cons, List.length_nil, List.replicate, List.cons_append, List.nil_append, List.append_nil, List.getElem?_cons_zero, List.getElem?_cons_succ, List.set_cons_zero, List.set_cons_succ, Option.some.injEq, V.int.injEq, V.bl.injEq, V.ref.injEq, V.ty.injEq, List.cons.injEq, and_true, true_and, exists_eq_left, exists_eq_left', exists_and_left, exists_and_right, exists_eq, exists_eq', and_assoc, Nat.reduceAdd, Nat.reduceSub, Bool.not_true, Bool.not_false, Bool.false_eq_true, if_true, if_false, reduceIte, Nat.zero_add, decide_true, decide_false, selC, comp_K, tYes, Option.join_some, rIxTH, rIxLH, rLenH, rIsiF, at0, at1, at2, at3, at4, at5, at6, at7, at8, HO.tup.injEq, HO.lst.injEq, reduceCtorEq, false_or, or_false, tyF_non, tyF_bl, tyF_int, tyF_str, exists_const, Int.reduceAdd, Int.reduceMul, Int.reduceSub, gSub, rSetL, tSl, tPart, tNoPart, rSlH, upd_same, upd_upd, rIntB, rListH, tBM, tBM0, rAppend, rClear, tPar, gTupH]
  refine ⟨⟨_, .of (g2 _ _ hl)⟩, ?_⟩
  refine for_list (K := K) (a := l) (xs := ys) (fun i σ H' => Same H H' ∧ TupSame H1 H' ∧ H' d = some (.dT ko) ∧ ∃ (zs : List V) (o1 o2 o3 : Option V), σ = [some (.ref l), some (.ref d), some (.ref D), o1, o2, o3] ∧ H' D = some (.lst zs) ∧ LR FeQ H' zs ((fs.take i).flatMap (told1 (nxt fs)))) ⟨g2, ts_same (same_new hD _), by rw [upd_ne nDd]; exact hd1, [], none, none, none, rfl, upd_same, by rw [List.take_zero]; exact .nil⟩ (fun i σ H' _ iv => .of (iv.1 _ _ hl)) ?_ ?_
  · rintro i v σ H3 hi ⟨g3, t3, hd3, zs, o1, o2, o3, rfl, hD3, hz⟩
    obtain ⟨p, f, rfl, hf, a, b, hq, ha, hb⟩ := hp.2 i v hi
    have hi' := (List.getElem?_eq_some_iff.mp hi).1
    have hq3 := g3 _ _ hq
    have ha3 : QH H3 a f.1 := g3 _ _ ha
    have hb3 : QH H3 b f.2 := g3 _ _ hb
    have on3 := on.ts t3
    rw [List.take_add_one, hf]
    simp only [Option.toList, List.flatMap_append, List.flatMap_cons, List.flatMap_nil, List.append_nil]
    simp only [tSeq, tNext, tRet, tRetN, tIfS, tAsg, gName, tDrop, tVar, tC, tOp, tUn, rI, rI0, rU, rEq, rNe, tTest, tB, tNot, tAnd, tOr, tAndV, tOrV, tNotV, tIf, tCB, tCall, tNil, tCons, tTup, tLst, gTup, gCons, gNil, L2.start, rIsi, rIxT, rIxL, cx_K, tyN_non, tyN_bl, tyN_int, tyN_str, isi_ii, isi_ib, isi_it, isi_il, isi_bi, isi_bb, isi_tt, isi_ni, isi_si, isi_ti, isi_li, isi_di, isi_ll, scal_ii, scal_bb, sz0, sz1, sz2, sz3, sz4, List.map_cons, List.map_nil, List.length_cons, List.length_nil, List.replicate, List.cons_append, List.nil_append, List.append_nil, List.getElem?_cons_zero, List.getElem?_cons_succ, List.set_cons_zero, List.set_cons_succ, Option.some.injEq, V.int.injEq, V.bl.injEq, V.ref.injEq, V.ty.injEq, List.cons.injEq, and_true, true_and, exists_eq_left, exists_eq_left', exists_and_left, exists_and_right, exists_eq, exists_eq', and_assoc, Nat.reduceAdd, Nat.reduceSub, Bool.not_true, Bool.not_false, Bool.false_eq_true, if_true, if_false, reduceIte, Nat.zero_add, decide_true, decide_false, selC, comp_K, tYes, Option.join_some, rIxTH, rIxLH, rLenH, rIsiF, at0, at1, at2, at3, at4, at5, at6, at7, at8, HO.tup.injEq, HO.lst.injEq, reduceCtorEq, false_or, or_false, tyF_non, tyF_bl, tyF_int, tyF_str, exists_const, Int.reduceAdd, Int.reduceMul, Int.reduceSub, gSub, rSetL, tSl, tPart, tNoPart, rSlH, upd_same, upd_upd, rIntB, rListH, tBM, tBM0, rAppend, rClear, tPar, gTupH, tDNotIn, hq3]
    refine ⟨_, .t (k := kQ f.1) hd3 ha3, ?_⟩
    rw [on3.is]
    have lz := told_len (nxt fs) (fs.take i)
    have lt : (fs.take i).length ≤ i := by rw [List.length_take]; exact Nat.min_le_left _ _
    have lz' : zs.length ≤ i := by rw [hz.1]; omega
    refine ite2 (fun c => ?_) fun c => ?_
    · have nn : nxt fs f.1 = none := by
        cases e : nxt fs f.1 with
        | none => rfl
        | some n => rw [e] at c; cases c
      have stop := so f (List.mem_of_getElem? hf) nn
      refine ⟨fun m σ H' => H3 = H' ∧ ∃ (x : Q3) (c : Addr), σ = [some (.ref l), some (.ref d), some (.ref D), some (.ref a), some (.ref b), some (.ref c)] ∧ QH H3 c x ∧ fol (nxt fs) m x = fol (nxt fs) 10 f.2, ⟨10, rfl, f.2, b, rfl, hb3, rfl⟩, ?_⟩
      rintro m σ H' ⟨rfl, x, c', rfl, hc, hm⟩
      simp only [tSeq, tNext, tRet, tRetN, tIfS, tAsg, gName, tDrop, tVar, tC, tOp, tUn, rI, rI0, rU, rEq, rNe, tTest, tB, tNot, tAnd, tOr, tAndV, tOrV, tNotV, tIf, tCB, tCall, tNil, tCons, tTup, tLst, gTup, gCons, gNil, L2.start, rIsi, rIxT, rIxL, cx_K, tyN_non, tyN_bl, tyN_int, tyN_str, isi_ii, isi_ib, isi_it, isi_il, isi_bi, isi_bb, isi_tt, isi_ni, isi_si, isi_ti, isi_li, isi_di, isi_ll, scal_ii, scal_bb, sz0, sz1, sz2, sz3, sz4, List.map_cons, List.map_nil, List.length_cons, List.length_nil, List.replicate, List.cons_append, List.nil_append, List.append_nil, List.getElem?_cons_zero, List.getElem?_cons_succ, List.set_cons_zero, List.set_cons_succ, Option.some.injEq, V.int.injEq, V.bl.injEq, V.ref.injEq, V.ty.injEq, List.cons.injEq, and_true, true_and, exists_eq_left, exists_eq_left', exists_and_left, exists_and_right, exists_eq, exists_eq', and_assoc, Nat.reduceAdd, Nat.reduceSub, Bool.not_true, Bool.not_false, Bool.false_eq_true, if_true, if_false, reduceIte, Nat.zero_add, decide_true, decide_false, selC, comp_K, tYes, Option.join_some, rIxTH, rIxLH, rLenH, rIsiF, at0, at1, at2, at3, at4, at5, at6, at7, at8, HO.tup.injEq, HO.lst.injEq, reduceCtorEq, false_or, or_false, tyF_non, tyF_bl, tyF_int, tyF_str, exists_const, Int.reduceAdd, Int.reduceMul, Int.reduceSub, gSub, rSetL, tSl, tPart, tNoPart, rSlH, upd_same, upd_upd, rIntB, rListH, tBM, tBM0, rAppend, rClear, tPar, gTupH, tDIn]
      refine ⟨_, .t (k := kQ x) hd3 hc, ?_⟩
      rw [on3.is]
      refine ite2 (fun c1 => ?_) fun c1 => ?_
      · obtain ⟨x', hx⟩ := Option.isSome_iff_exists.mp c1
        obtain ⟨a', hv, ha'⟩ := (on3 x).1 x' hx
        have m0 : m ≠ 0 := fun z => by
          rw [z] at hm
          have hm : x = fol (nxt fs) 10 f.2 := hm
          rw [← hm, hx] at stop
          cases stop
        refine ⟨fun σ' H' => σ' = [some (.ref l), some (.ref d), some (.ref D), some (.ref a), some (.ref b), some (.ref a')] ∧ H3 = H', fun σ' H' e => ⟨m - 1, by omega, e.2, x', a', e.1, ha', ?_⟩, ?_⟩
        · obtain ⟨m', rfl⟩ : ∃ m', m = m' + 1 := ⟨m - 1, by omega⟩
          rw [← hm]
          show fol (nxt fs) m' x' = fol (nxt fs) (m' + 1) x
          conv => rhs; unfold fol; rw [hx]
        · simp only [tSeq, tNext, tRet, tRetN, tIfS, tAsg, gName, tDrop, tVar, tC, tOp, tUn, rI, rI0, rU, rEq, rNe, tTest, tB, tNot, tAnd, tOr, tAndV, tOrV, tNotV, tIf, tCB, tCall, tNil, tCons, tTup, tLst, gTup, gCons, gNil, L2.start, rIsi, rIxT, rIxL, cx_K, tyN_non, tyN_bl, tyN_int, tyN_str, isi_ii, isi_ib, isi_it, isi_il, isi_bi, isi_bb, isi_tt, isi_ni, isi_si, isi_ti, isi_li, isi_di, isi_ll, scal_ii, scal_bb, sz0, sz1, sz2, sz3, sz4, List.map_cons, List.map_nil, List.length_cons, List.length_nil, List.replicate, List.cons_append, List.nil_append, List.append_nil, List.getElem?_cons_zero, List.getElem?_cons_succ, List.set_cons_zero, List.set_cons_succ, Option.some.injEq, V.int.injEq, V.bl.injEq, V.ref.injEq, V.ty.injEq, List.cons.injEq, and_true, true_and, exists_eq_left, exists_eq_left', exists_and_left, exists_and_right, exists_eq, exists_eq', and_assoc, Nat.reduceAdd, Nat.reduceSub, Bool.not_true, Bool.not_false, Bool.false_eq_true, if_true, if_false, reduceIte, Nat.zero_add, decide_true, decide_false, selC, comp_K, tYes, Option.join_some, rIxTH, rIxLH, rLenH, rIsiF, at0, at1, at2, at3, at4, at5, at6, at7, at8, HO.tup.injEq, HO.lst.injEq, reduceCtorEq, false_or, or_false, tyF_non, tyF_bl, tyF_int, tyF_str, exists_const, Int.reduceAdd, Int.reduceMul, Int.reduceSub, gSub, rSetL, tSl, tPart, tNoPart, rSlH, upd_same, upd_upd, rIntB, rListH, tBM, tBM0, rAppend, rClear, tPar, gTupH, tDGet]
          exact ⟨_, by rw [← hv]; exact .t (k := kQ x) hd3 hc, rfl⟩
      · have nx : nxt fs x = none := by
          cases e : nxt fs x with
          | none => rfl
          | some n => rw [e] at c1; exact absurd rfl c1
        rw [fol_none nx] at hm
        subst hm
        refine ⟨tyV_of hD3, fun t ht => ?_⟩
        have g4 := same_new ht (HO.tup [V.ref a, V.ref c'])
        have h4 : upd H3 t (HO.tup [V.ref a, V.ref c']) t = some (HO.tup [V.ref a, V.ref c']) := upd_same
        generalize upd H3 t (HO.tup [V.ref a, V.ref c']) = H4 at *
        have hD4 := g4 _ _ hD3
        refine ⟨zs, hD4, small1000 (by omega), same_put (g3.trans g4) (g1.free hD), ts_trans t3 (ts_trans (ts_same g4) (ts_put hD4)), by rw [upd_ne nDd]; exact g4 _ _ hd3, ?_⟩
        have e1 : told1 (nxt fs) f = [(f.1, fol (nxt fs) 10 f.2)] := by unfold told1; rw [nn]; rfl
        rw [e1]
        exact ((hz.ts feq_ts (ts_same g4)).snoc (⟨a, c', h4, g4 _ _ ha3, g4 _ _ hc⟩ : FeQ H4 t (f.1, fol (nxt fs) 10 f.2))).ts feq_ts (ts_put hD4)
    · have e1 : told1 (nxt fs) f = [] := by
        unfold told1
        cases e : nxt fs f.1 with
        | none => rw [e] at c; exact absurd rfl c
        | some n => rfl
      rw [e1, List.append_nil]
      exact ⟨g3, t3, hd3, zs, hD3, hz⟩
  · rintro σ H3 ⟨g3, t3, hd3, zs, o1, o2, o3, rfl, hD3, hz⟩
    rw [List.take_of_length_le (by rw [hp.1]; exact Nat.le_refl _)] at hz
    simp only [tSeq, tNext, tRet, tRetN, tIfS, tAsg, gName, tDrop, tVar, tC, tOp, tUn, rI, rI0, rU, rEq, rNe, tTest, tB, tNot, tAnd, tOr, tAndV, tOrV, tNotV, tIf, tCB, tCall, tNil, tCons, tTup, tLst, gTup, gCons, gNil, L2.start, rIsi, rIxT, rIxL, cx_K, tyN_non, tyN_bl, tyN_int, tyN_str, isi_ii, isi_ib, isi_it, isi_il, isi_bi, isi_bb, isi_tt, isi_ni, isi_si, isi_ti, isi_li, isi_di, isi_ll, scal_ii, scal_bb, sz0, sz1, sz2, sz3, sz4, List.map_cons, List.map_nil, List.length_cons, List.length_nil, List.replicate, List.cons_append, List.nil_append, List.append_nil, List.getElem?_cons_zero, List.getElem?_cons_succ, List.set_cons_zero, List.set_cons_succ, Option.some.injEq, V.int.injEq, V.bl.injEq, V.ref.injEq, V.ty.injEq, List.cons.injEq, and_true, true_and, exists_eq_left, exists_eq_left', exists_and_left, exists_and_right, exists_eq, exists_eq', and_assoc, Nat.reduceAdd, Nat.reduceSub, Bool.not_true, Bool.not_false, Bool.false_eq_true, if_true, if_false, reduceIte, Nat.zero_add, decide_true, decide_false, selC, comp_K, tYes, Option.join_some, rIxTH, rIxLH, rLenH, rIsiF, at0, at1, at2, at3, at4, at5, at6, at7, at8, HO.tup.injEq, HO.lst.injEq, reduceCtorEq, false_or, or_false, tyF_non, tyF_bl, tyF_int, tyF_str, exists_const, Int.reduceAdd, Int.reduceMul, Int.reduceSub, gSub, rSetL, tSl, tPart, tNoPart, rSlH, upd_same, upd_upd, rIntB, rListH, tBM, tBM0, rAppend, rClear, tPar, gTupH]
    exact k D zs H3 (g1.free hD) g3 hD3 hz
structure Rw where
  f : Fc
  l : Bool
  r : Bool
def RoH (H : Hp) (p : Addr) (w : Rw) : Prop := ∃ s, H p = some (.tup [.ref s, .bl w.l, .bl w.r]) ∧ FeQ H s w.f
theorem roh_ts : ∀ (H H' : Hp) (p : Addr) (w : Rw), TupSame H H' → RoH H p w → RoH H' p w := fun _ _ _ _ g ⟨s, h1, h2⟩ => ⟨s, g _ _ h1, feq_ts _ _ _ _ g h2⟩
def fen1 (w : Rw) : List Fc := (if (w.l && !w.r) = true then [w.f] else []) ++ if (w.r && !w.l) = true then [(w.f.2, w.f.1)] else []
theorem fen1_len (w : Rw) : (fen1 w).length ≤ 1 := by
  unfold fen1
  cases w.l <;> cases w.r <;> simp
theorem fen_len : ∀ rs : List Rw, (rs.flatMap fen1).length ≤ rs.length
  | [] => Nat.le_refl _
  | w :: rs => by
    have := fen_len rs
    have := fen1_len w
    rw [List.flatMap_cons, List.length_append, List.length_cons]
    omega
theorem nxt_mem {fs : List Fc} {q n : Q3} (h : nxt fs q = some n) : n ∈ goL fs q := by
  unfold nxt at h
  split at h
  · rename_i n' p e1 e2
    rw [e1]
    split at h
    · cases h; simp
    · cases h
  · cases h
theorem fol_ok {fs : List Fc} (fo : FsOk fs) : ∀ (n : Nat) {q : Q3}, PtOk q → PtOk (fol (nxt fs) n q)
  | 0, q, h => h
  | n + 1, q, h => by
    unfold fol
    split
    · rename_i q' e
      exact fol_ok fo n (go_ok fo (nxt_mem e)).2
    · exact h
theorem told_ok {fs : List Fc} (fo : FsOk fs) : FsOk (toldL fs) := fun f hf => by
  obtain ⟨f', h1, h2⟩ := List.mem_flatMap.mp hf
  unfold told1 at h2
  split at h2
  · rw [List.mem_singleton] at h2
    rw [h2]
    exact ⟨(fo f' h1).1, fol_ok fo 10 (fo f' h1).2⟩
  · cases h2
def sp_fen (tb : Addr) (lp : Pos) (ql : Str) : Sp := fun vs H Q _ => ∃ (l : Addr) (ys : List V) (rs : List Rw), vs = [.ref l] ∧ H l = some (.lst ys) ∧ ys.length < 64 ∧ LR RoH H ys rs ∧ FsOk (rs.flatMap fen1) ∧ Stops (rs.flatMap fen1) ∧ KInj (toldL (rs.flatMap fen1)) ∧ LamTab H tb lp ql ∧
  ∀ D zs fs' g H', H D = none → SameT tb H H' → LamTab H' tb lp ql → H' D = some (.lst zs) → LR FeQ H' zs fs' → fs'.Perm (toldL (rs.flatMap fen1)) → 0 < g → (∀ f, f ∈ toldL (rs.flatMap fen1) → f.1.w ≤ g ∧ f.2.w ≤ g) → (fs'.Pairwise fun a b => lt22 (kyF g a) (kyF g b) = true) → Q (.ref D) H'
theorem ok_fences_of (T : Txt K mg ad fd) (hK : K.In base) (hB : base.BuiltinsAt mg (ad 25)) : FnOk P w K mg base CX0 6 (ad 6) (fd 6) ["rows"] (sp_fen (ad 25) lposB qlB) := by
  refine T.fences_of.fn.ok sc_fences_of (fun vs H Q E h => ?_) (fun cdv A outer s H vs Q E hr h => ?_)
  · obtain ⟨l, ys, rs, rfl, _⟩ := h
    rfl
  obtain ⟨l, ys, rs, rfl, hl, hn, hp, fo, so, ki, lt, k⟩ := h
  have qpss3 := @pss3
  have qps_set := @ps_set
  have qpe_lst := @pe_lst
  have qpa_nil := @pa_nil
  have qps_for := @ps_for
  have qpi_list := @pi_list
  have qpv := @pv
  have qpg_tupH := @pg_tupH
  have qpgs_cons := @pgs_cons
  have qpg_name := @pg_name
  have qpgs_nil := @pgs_nil
  have qpss2 := @pss2
  have qps_if := @ps_if
  have qPWpt := @PW.pt
  have qpw_and := @pw_and
  have qpt_val := @pt_val
  have qpw_and1 := @pw_and1
  have qpt_not := @pt_not
  have qpss_one := @pss_one
  have qps_expr := @ps_expr
  have qpe_bm := @pe_bm
  have qpa1 := @pa1
  have qpe_tup := @pe_tup
  have qpa2 := @pa2
  have qpe_ix := @pe_ix
  have qpe_int := @pe_int
  have qpss_nil := @pss_nil
  have qps_ret := @ps_ret
  have qpe_call := @pe_call
  generalize @L2.PE = QE, @L2.PT = QT, @L2.PW = QW, @L2.PA = QA, @L2.PS = QS, @L2.PSs = QSs, @L2.PG = QG, @L2.PGs = QGs, @L2.PI = QI, @L2.PO = QO, @L2.PIf = QIf at qpss3 qps_set qpe_lst qpa_nil qps_for qpi_list qpv qpg_tupH qpgs_cons qpg_name qpgs_nil qpss2 qps_if qPWpt qpw_and qpt_val qpw_and1 qpt_not qpss_one qps_expr qpe_bm qpa1 qpe_tup qpa2 qpe_ix qpe_int qpss_nil qps_ret qpe_call ⊢
  refine ⟨_,
    (qpss3
      (qps_set (i := 1) sc_fences_of.nd rfl (Or.inl rfl) (qpe_lst qpa_nil))
      (qps_for PassesOwn.never rfl (qpi_list (qpv 0)) (qpg_tupH (n := 3) rfl (qpgs_cons (qpg_name (i := 2) sc_fences_of.nd rfl (Or.inl rfl)) (qpgs_cons (qpg_name (i := 3) sc_fences_of.nd rfl (Or.inl rfl)) (qpgs_cons (qpg_name (i := 4) sc_fences_of.nd rfl (Or.inl rfl)) qpgs_nil)))) (qpss2
      (qps_if (qPWpt (qpw_and (qpt_val (qpv 3)) (qpw_and1 (qpt_not (qpt_val (qpv 4)))))) (qpss_one (qps_expr (qpe_bm PySem.F.plainAttrs_list PySem.F.slot_list_append PySem.F.type_list_append mt_append (qpv 1) (qpa1 (qpe_tup (qpa2 (qpe_ix ix_tupH (qpv 2) qpe_int (fun _ _ => rfl)) ns_Subscript (qpe_ix ix_tupH (qpv 2) qpe_int (fun _ _ => rfl)) ns_Subscript)) ns_Tuple)))) qpss_nil)
      (qps_if (qPWpt (qpw_and (qpt_val (qpv 4)) (qpw_and1 (qpt_not (qpt_val (qpv 3)))))) (qpss_one (qps_expr (qpe_bm PySem.F.plainAttrs_list PySem.F.slot_list_append PySem.F.type_list_append mt_append (qpv 1) (qpa1 (qpe_tup (qpa2 (qpe_ix ix_tupH (qpv 2) qpe_int (fun _ _ => rfl)) ns_Subscript (qpe_ix ix_tupH (qpv 2) qpe_int (fun _ _ => rfl)) ns_Subscript)) ns_Tuple)))) qpss_nil)))
      (qps_ret (qpe_call (ok_by_points T hK hB) (hr.mono (by decide)) rfl T.by_points.mg T.by_points.fn.kp T.by_points.bn .nil pass0 (qpa1 (qpe_call (ok_straightened T) (hr.mono (by decide)) rfl T.straightened.mg T.straightened.fn.kp T.straightened.bn .nil pass0 (qpa1 (qpv 1) ns_Name)) ns_Call))))
    , ?_⟩
  clear  qpss3 qps_set qpe_lst qpa_nil qps_for qpi_list qpv qpg_tupH qpgs_cons qpg_name qpgs_nil qpss2 qps_if qPWpt qpw_and qpt_val qpw_and1 qpt_not qpss_one qps_expr qpe_bm qpa1 qpe_tup qpa2 qpe_ix qpe_int qpss_nil qps_ret qpe_call QE QT QW QA QS QSs QG QGs QI QO QIf
  simp only [tSeq, tNext, tRet, tRetN, tIfS, tAsg, gName, tDrop, tVar, tC, tOp, tUn, rI, rI0, rU, rEq, rNe, tTest, tB, tNot, tAnd, tOr, tAndV, tOrV, tNotV, tIf, tCB, tCall, tNil, tCons, tTup, tLst, gTup, gCons, gNil, L2.start, rIsi, rIxT, rIxL, cx_K, tyN_non, tyN_bl, tyN_int, tyN_str, isi_ii, isi_ib, isi_it, isi_il, isi_bi, isi_bb, isi_tt, isi_ni, isi_si, isi_ti, isi_li, isi_di, isi_ll, scal_ii, scal_bb, sz0, sz1, sz2, sz3, sz4, List.map_cons, List.map_nil, List.length_cons, List.length_nil, List.replicate, List.cons_append, List.nil_append, List.append_nil, List.getElem?_cons_zero, List.getElem?_cons_succ, List.set_cons_zero, List.set_cons_succ, Option.some.injEq, V.int.injEq, V.bl.injEq, V.ref.injEq, V.ty.injEq, List.cons.injEq, and_true, true_and, exists_eq_left, exists_eq_left', exists_and_left, exists_and_right, exists_eq, exists_eq', and_assoc, Nat.reduceAdd, Nat.reduceSub, Bool.not_true, Bool.not_false, Bool.false_eq_true, if_true, if_false, reduceIte, Nat.zero_add, decide_true, decide_false, selC, comp_K, tYes, Option.join_some, rIxTH, rIxLH, rLenH, rIsiF, at0, at1, at2, at3, at4, at5, at6, at7, at8, HO.tup.injEq, HO.lst.injEq, reduceCtorEq, false_or, or_false, tyF_non, tyF_bl, tyF_int, tyF_str, exists_const, Int.reduceAdd, Int.reduceMul, Int.reduceSub, gSub, rSetL, tSl, tPart, tNoPart, rSlH, upd_same, upd_upd, rIntB, rListH, tBM, tBM0, rAppend, rClear, tPar, gTupH]
  intro D hD
  have g1 := same_new hD (HO.lst [])
  refine tFor_mk ?_
  simp only [iList, tSeq, tNext, tRet, tRetN, tIfS, tAsg, gName, tDrop, tVar, tC, tOp, tUn, rI, rI0, rU, rEq, rNe, tTest, tB, tNot, tAnd, tOr, tAndV, tOrV, tNotV, tIf, tCB, tCall, tNil, tCons, tTup, tLst, gTup, gCons, gNil, L2.start, rIsi, rIxT, rIxL, cx_K, tyN_non, tyN_bl, tyN_int, tyN_str, isi_ii, isi_ib, isi_it, isi_il, isi_bi, isi_bb, isi_tt, isi_ni, isi_si, isi_ti, isi_li, isi_di, isi_ll, scal_ii, scal_bb, sz0, sz1, sz2, sz3, sz4, List.map_cons, List.map_nil, List.length_cons, List.length_nil, List.replicate, List.cons_append, List.nil_append, List.append_nil, List.getElem?_cons_zero, List.getElem?_cons_succ, List.set_cons_zero, List.set_cons_succ, Option.some.injEq, V.int.injEq, V.bl.injEq, V.ref.injEq, V.ty.injEq, List.cons.injEq, and_true, true_and, exists_eq_left, exists_eq_left', exists_and_left, exists_and_right, exists_eq, exists_eq', and_assoc, Nat.reduceAdd, Nat.reduceSub, Bool.not_true, Bool.not_false, Bool.false_eq_true, if_true, if_false, reduceIte, Nat.zero_add, decide_true, decide_false, selC, comp_K, tYes, Option.join_some, rIxTH, rIxLH, rLenH, rIsiF, at0, at1, at2, at3, at4, at5, at6, at7, at8, HO.tup.injEq, HO.lst.injEq, reduceCtorEq, false_or, or_false, tyF_non, tyF_bl, tyF_int, tyF_str, exists_const, Int.reduceAdd, Int.reduceMul, Int.reduceSub, gSub, rSetL, tSl, tPart, tNoPart, rSlH, upd_same, upd_upd, rIntB, rListH, tBM, tBM0, rAppend, rClear, tPar, gTupH]
  refine ⟨⟨_, .of (g1 _ _ hl)⟩, ?_⟩
  refine for_list (K := K) (a := l) (xs := ys) (fun i σ H' => Same H H' ∧ ∃ (zs : List V) (o1 o2 o3 : Option V), σ = [some (.ref l), some (.ref D), o1, o2, o3] ∧ H' D = some (.lst zs) ∧ LR FeQ H' zs ((rs.take i).flatMap fen1)) ⟨g1, [], none, none, none, rfl, upd_same, by rw [List.take_zero]; exact .nil⟩ (fun i σ H' _ iv => .of (iv.1 _ _ hl)) ?_ ?_
  · rintro i v σ H3 hi ⟨g3, zs, o1, o2, o3, rfl, hD3, hz⟩
    obtain ⟨p, w, rfl, hw, s', hq, a, b, hs, ha, hb⟩ := hp.2 i v hi
    have hi' := (List.getElem?_eq_some_iff.mp hi).1
    have hq3 := g3 _ _ hq
    have hs3 := g3 _ _ hs
    have ha3 : QH H3 a w.f.1 := g3 _ _ ha
    have hb3 : QH H3 b w.f.2 := g3 _ _ hb
    have lz := fen_len (rs.take i)
    have lt : (rs.take i).length ≤ i := by rw [List.length_take]; exact Nat.min_le_left _ _
    have lz' : zs.length ≤ i := by rw [hz.1]; omega
    rw [List.take_add_one, hw]
    simp only [Option.toList, List.flatMap_append, List.flatMap_cons, List.flatMap_nil, List.append_nil]
    simp only [tSeq, tNext, tRet, tRetN, tIfS, tAsg, gName, tDrop, tVar, tC, tOp, tUn, rI, rI0, rU, rEq, rNe, tTest, tB, tNot, tAnd, tOr, tAndV, tOrV, tNotV, tIf, tCB, tCall, tNil, tCons, tTup, tLst, gTup, gCons, gNil, L2.start, rIsi, rIxT, rIxL, cx_K, tyN_non, tyN_bl, tyN_int, tyN_str, isi_ii, isi_ib, isi_it, isi_il, isi_bi, isi_bb, isi_tt, isi_ni, isi_si, isi_ti, isi_li, isi_di, isi_ll, scal_ii, scal_bb, sz0, sz1, sz2, sz3, sz4, List.map_cons, List.map_nil, List.length_cons, List.length_nil, List.replicate, List.cons_append, List.nil_append, List.append_nil, List.getElem?_cons_zero, List.getElem?_cons_succ, List.set_cons_zero, List.set_cons_succ, Option.some.injEq, V.int.injEq, V.bl.injEq, V.ref.injEq, V.ty.injEq, List.cons.injEq, and_true, true_and, exists_eq_left, exists_eq_left', exists_and_left, exists_and_right, exists_eq, exists_eq', and_assoc, Nat.reduceAdd, Nat.reduceSub, Bool.not_true, Bool.not_false, Bool.false_eq_true, if_true, if_false, reduceIte, Nat.zero_add, decide_true, decide_false, selC, comp_K, tYes, Option.join_some, rIxTH, rIxLH, rLenH, rIsiF, at0, at1, at2, at3, at4, at5, at6, at7, at8, HO.tup.injEq, HO.lst.injEq, reduceCtorEq, false_or, or_false, tyF_non, tyF_bl, tyF_int, tyF_str, exists_const, Int.reduceAdd, Int.reduceMul, Int.reduceSub, gSub, rSetL, tSl, tPart, tNoPart, rSlH, upd_same, upd_upd, rIntB, rListH, tBM, tBM0, rAppend, rClear, tPar, gTupH, hq3, hs3]
    obtain ⟨f, wl, wr⟩ := w
    have put : ∀ (x y : Addr) (f' : Fc), QH H3 x f'.1 → QH H3 y f'.2 → ∀ t, H3 t = none → ∃ us, upd H3 t (HO.tup [V.ref x, V.ref y]) D = some (HO.lst us) ∧ us.length < sizeLine ∧ Same H (upd (upd H3 t (HO.tup [V.ref x, V.ref y])) D (HO.lst (us ++ [V.ref t]))) ∧
        LR FeQ (upd (upd H3 t (HO.tup [V.ref x, V.ref y])) D (HO.lst (us ++ [V.ref t]))) (us ++ [V.ref t]) ((rs.take i).flatMap fen1 ++ [f']) := fun x y f' hx hy t ht => by
      have g4 := same_new ht (HO.tup [V.ref x, V.ref y])
      have h4 : upd H3 t (HO.tup [V.ref x, V.ref y]) t = some (HO.tup [V.ref x, V.ref y]) := upd_same
      generalize upd H3 t (HO.tup [V.ref x, V.ref y]) = H4 at *
      have hD4 := g4 _ _ hD3
      exact ⟨zs, hD4, small1000 (by omega), same_put (g3.trans g4) hD, ((hz.ts feq_ts (ts_same g4)).snoc (⟨x, y, h4, g4 _ _ hx, g4 _ _ hy⟩ : FeQ H4 t f')).ts feq_ts (ts_put hD4)⟩
    cases wl <;> cases wr <;> simp only [tSeq, tNext, tRet, tRetN, tIfS, tAsg, gName, tDrop, tVar, tC, tOp, tUn, rI, rI0, rU, rEq, rNe, tTest, tB, tNot, tAnd, tOr, tAndV, tOrV, tNotV, tIf, tCB, tCall, tNil, tCons, tTup, tLst, gTup, gCons, gNil, L2.start, rIsi, rIxT, rIxL, cx_K, tyN_non, tyN_bl, tyN_int, tyN_str, isi_ii, isi_ib, isi_it, isi_il, isi_bi, isi_bb, isi_tt, isi_ni, isi_si, isi_ti, isi_li, isi_di, isi_ll, scal_ii, scal_bb, sz0, sz1, sz2, sz3, sz4, List.map_cons, List.map_nil, List.length_cons, List.length_nil, List.replicate, List.cons_append, List.nil_append, List.append_nil, List.getElem?_cons_zero, List.getElem?_cons_succ, List.set_cons_zero, List.set_cons_succ, Option.some.injEq, V.int.injEq, V.bl.injEq, V.ref.injEq, V.ty.injEq, List.cons.injEq, and_true, true_and, exists_eq_left, exists_eq_left', exists_and_left, exists_and_right, exists_eq, exists_eq', and_assoc, Nat.reduceAdd, Nat.reduceSub, Bool.not_true, Bool.not_false, Bool.false_eq_true, if_true, if_false, reduceIte, Nat.zero_add, decide_true, decide_false, selC, comp_K, tYes, Option.join_some, rIxTH, rIxLH, rLenH, rIsiF, at0, at1, at2, at3, at4, at5, at6, at7, at8, HO.tup.injEq, HO.lst.injEq, reduceCtorEq, false_or, or_false, tyF_non, tyF_bl, tyF_int, tyF_str, exists_const, Int.reduceAdd, Int.reduceMul, Int.reduceSub, gSub, rSetL, tSl, tPart, tNoPart, rSlH, upd_same, upd_upd, rIntB, rListH, tBM, tBM0, rAppend, rClear, tPar, gTupH, hs3]
    · exact ⟨g3, zs, hD3, by rw [show fen1 ⟨f, false, false⟩ = [] from rfl, List.append_nil]; exact hz⟩
    · exact ⟨tyV_of hD3, put b a (f.2, f.1) hb3 ha3⟩
    · exact ⟨tyV_of hD3, put a b f ha3 hb3⟩
    · exact ⟨g3, zs, hD3, by rw [show fen1 ⟨f, true, true⟩ = [] from rfl, List.append_nil]; exact hz⟩
  · rintro σ H3 ⟨g3, zs, o1, o2, o3, rfl, hD3, hz⟩
    rw [List.take_of_length_le (by rw [hp.1]; exact Nat.le_refl _)] at hz
    have lz := fen_len rs
    have ln := hp.1
    simp only [tSeq, tNext, tRet, tRetN, tIfS, tAsg, gName, tDrop, tVar, tC, tOp, tUn, rI, rI0, rU, rEq, rNe, tTest, tB, tNot, tAnd, tOr, tAndV, tOrV, tNotV, tIf, tCB, tCall, tNil, tCons, tTup, tLst, gTup, gCons, gNil, L2.start, rIsi, rIxT, rIxL, cx_K, tyN_non, tyN_bl, tyN_int, tyN_str, isi_ii, isi_ib, isi_it, isi_il, isi_bi, isi_bb, isi_tt, isi_ni, isi_si, isi_ti, isi_li, isi_di, isi_ll, scal_ii, scal_bb, sz0, sz1, sz2, sz3, sz4, List.map_cons, List.map_nil, List.length_cons, List.length_nil, List.replicate, List.cons_append, List.nil_append, List.append_nil, List.getElem?_cons_zero, List.getElem?_cons_succ, List.set_cons_zero, List.set_cons_succ, Option.some.injEq, V.int.injEq, V.bl.injEq, V.ref.injEq, V.ty.injEq, List.cons.injEq, and_true, true_and, exists_eq_left, exists_eq_left', exists_and_left, exists_and_right, exists_eq, exists_eq', and_assoc, Nat.reduceAdd, Nat.reduceSub, Bool.not_true, Bool.not_false, Bool.false_eq_true, if_true, if_false, reduceIte, Nat.zero_add, decide_true, decide_false, selC, comp_K, tYes, Option.join_some, rIxTH, rIxLH, rLenH, rIsiF, at0, at1, at2, at3, at4, at5, at6, at7, at8, HO.tup.injEq, HO.lst.injEq, reduceCtorEq, false_or, or_false, tyF_non, tyF_bl, tyF_int, tyF_str, exists_const, Int.reduceAdd, Int.reduceMul, Int.reduceSub, gSub, rSetL, tSl, tPart, tNoPart, rSlH, upd_same, upd_upd, rIntB, rListH, tBM, tBM0, rAppend, rClear, tPar, gTupH]
    refine ⟨D, zs, _, rfl, hD3, by rw [hz.1]; omega, hz, fo, so, fun E zs' H4 hE g4 hE4 hz4 => ?_⟩
    have lt4 := (lt.same g3).same g4
    have l4 : zs'.length < 64 := by
      rw [hz4.1]
      have := told_len (nxt (rs.flatMap fen1)) (rs.flatMap fen1)
      unfold toldL
      omega
    refine ⟨E, zs', _, rfl, hE4, l4, hz4, told_ok fo, ki, lt4, fun D' us fs' g H5 hD' st5 lt5 hD5 hu5 pm gp gm pw => ?_⟩
    exact k D' us fs' g H5 (g3.free (g4.free hD')) (fun b o nb e => st5 _ _ nb (g4 _ _ (g3 _ _ e))) lt5 hD5 hu5 pm gp gm pw
def brd1 (k : Nat) : List W4 := if (k : Int) / 2 % 5 + (1 - (k : Int) % 2) < 5 ∧ (k : Int) / 10 + 1 - (1 - (k : Int) % 2) < 5 then [⟨(k : Int) / 2 % 5, (k : Int) / 10, (k : Int) / 2 % 5 + (1 - (k : Int) % 2), (k : Int) / 10 + 1 - (1 - (k : Int) % 2)⟩] else []
def brds (n : Nat) : List W4 := (List.range n).flatMap brd1
theorem brds_succ (n : Nat) : brds (n + 1) = brds n ++ brd1 n := by
  unfold brds
  rw [List.range_succ, List.flatMap_append]
  simp
theorem brd1_len (k : Nat) : (brd1 k).length ≤ 1 := by unfold brd1; split <;> simp
theorem brds_len (n : Nat) : (brds n).length ≤ n := by
  induction n with
  | zero => exact Nat.le_refl _
  | succ n ih =>
    have := brd1_len n
    rw [brds_succ, List.length_append]
    omega
theorem brd1_is {k : Nat} {w : W4} (h : w ∈ brd1 k) (hk : k < 50) : (0 ≤ w.x0 ∧ w.x0 ≤ 4 ∧ 0 ≤ w.y0 ∧ w.y0 ≤ 4) ∧ (0 ≤ w.x1 ∧ w.x1 ≤ 4 ∧ 0 ≤ w.y1 ∧ w.y1 ≤ 4) ∧ ((w.x1 = w.x0 + 1 ∧ w.y1 = w.y0) ∨ (w.x1 = w.x0 ∧ w.y1 = w.y0 + 1)) := by
  unfold brd1 at h
  split at h
  · rename_i c
    rw [List.mem_singleton] at h
    subst h
    simp only
    omega
  · cases h
theorem brds_is {n : Nat} (hn : n ≤ 50) {w : W4} (h : w ∈ brds n) : (0 ≤ w.x0 ∧ w.x0 ≤ 4 ∧ 0 ≤ w.y0 ∧ w.y0 ≤ 4) ∧ (0 ≤ w.x1 ∧ w.x1 ≤ 4 ∧ 0 ≤ w.y1 ∧ w.y1 ≤ 4) ∧ ((w.x1 = w.x0 + 1 ∧ w.y1 = w.y0) ∨ (w.x1 = w.x0 ∧ w.y1 = w.y0 + 1)) := by
  obtain ⟨k, hk, h⟩ := List.mem_flatMap.mp h
  have := List.mem_range.mp hk
  exact brd1_is h (by omega)
def t3Q (q : Q3) : Int × Int × Int := (q.x, q.y, q.w)
def rowOf (I : Int → Int → Bool) (M : M7) (w : W4) : Rw :=
  if lt3 (t3Q (spQ M w.x0 w.y0 1)) (t3Q (spQ M w.x1 w.y1 1)) = true then ⟨(spQ M w.x0 w.y0 1, spQ M w.x1 w.y1 1), I (w.x0 - 1 + (w.x1 - w.x0)) w.y0, I w.x0 (w.y0 - (w.x1 - w.x0))⟩
  else ⟨(spQ M w.x1 w.y1 1, spQ M w.x0 w.y0 1), I w.x0 (w.y0 - (w.x1 - w.x0)), I (w.x0 - 1 + (w.x1 - w.x0)) w.y0⟩
def lowR (w : Rw) : Rw := ⟨(loQ w.f.1, loQ w.f.2), w.l, w.r⟩
def RU (H : Hp) (p : Addr) (w : Rw) : Prop := ∃ a b, H p = some (.tup [.ref a, .ref b, .bl w.l, .bl w.r]) ∧ QH H a w.f.1 ∧ QH H b w.f.2
theorem ru_ts : ∀ (H H' : Hp) (p : Addr) (w : Rw), TupSame H H' → RU H p w → RU H' p w := fun _ _ _ _ g ⟨a, b, h1, h2, h3⟩ => ⟨a, b, g _ _ h1, g _ _ h2, g _ _ h3⟩
def sp_rows : Sp := fun vs H Q _ => ∃ (l p : Addr) (bs : List Bool) (M : M7), vs = [.ref l, .ref p] ∧ BL H l bs ∧ MpH H p M ∧ ∀ D zs (rs : List Rw) H', H D = none → Same H H' → H' D = some (.lst zs) → LR RoH H' zs (rs.map lowR) → rs.Perm ((brds 50).map (rowOf (inB bs) M)) → Q (.ref D) H'
theorem spQ_inj {M : M7} (hM : MOk M) {x y x' y' : Int} (h : spQ M x y 1 = spQ M x' y' 1) : x = x' ∧ y = y' := by
  have hD := quad_det hM.q
  unfold spQ at h
  injection h with h1 h2 h3
  have e1 : M.a * (x - x') + M.b * (y - y') = 0 := by rw [Int.mul_sub, Int.mul_sub]; omega
  have e2 : M.c * (x - x') + M.d * (y - y') = 0 := by rw [Int.mul_sub, Int.mul_sub]; omega
  have := lin_zero hD e1 e2
  omega
theorem rowOf_inj {M : M7} (hM : MOk M) {I : Int → Int → Bool} {w w' : W4} (hw : w ∈ brds 50) (hw' : w' ∈ brds 50) (h : (rowOf I M w).f = (rowOf I M w').f) : w = w' := by
  have b := (brds_is (by omega) hw).2.2
  have b' := (brds_is (by omega) hw').2.2
  have key : (w.x0 = w'.x0 ∧ w.y0 = w'.y0 ∧ w.x1 = w'.x1 ∧ w.y1 = w'.y1) ∨ (w.x0 = w'.x1 ∧ w.y0 = w'.y1 ∧ w.x1 = w'.x0 ∧ w.y1 = w'.y0) := by
    unfold rowOf at h
    split at h <;> split at h <;> (
      have h1 := congrArg Prod.fst h
      have h2 := congrArg Prod.snd h
      simp only at h1 h2
      have i1 := spQ_inj hM h1
      have i2 := spQ_inj hM h2
      omega)
  obtain ⟨x0, y0, x1, y1⟩ := w
  obtain ⟨x0', y0', x1', y1'⟩ := w'
  simp only at b b' key
  have e : x0 = x0' ∧ y0 = y0' ∧ x1 = x1' ∧ y1 = y1' := by omega
  obtain ⟨e1, e2, e3, e4⟩ := e
  rw [e1, e2, e3, e4]
theorem brds_nd : (brds 50).Nodup := by decide +kernel
theorem ok_law_rows (T : Txt K mg ad fd) : FnOk P w K mg base CX0 2 (ad 22) (fd 22) ["_law_held_here", "_law_map_of"] sp_rows := by
  refine T.law_rows.fn.ok sc_law_rows (fun vs H Q E h => ?_) (fun cdv A outer s H vs Q E hr h => ?_)
  · obtain ⟨l, p, bs, M, rfl, _⟩ := h
    rfl
  obtain ⟨l, p, bs, M, rfl, hb, hp, k⟩ := h
  have qpss3 := @pss3
  have qps_set := @ps_set
  have qpe_lst := @pe_lst
  have qpa_nil := @pa_nil
  have qps_for := @ps_for
  have qpi_range1 := @pi_range1
  have qpa1 := @pa1
  have qpe_int := @pe_int
  have qpg_name := @pg_name
  have qpss4 := @pss4
  have qpe_op := @pe_op
  have qpv := @pv
  have qps_if := @ps_if
  have qPWpt := @PW.pt
  have qpw_and := @pw_and
  have qpt_cmpR := @pt_cmpR
  have qpw_and1 := @pw_and1
  have qpss5 := @pss5
  have qpe_call := @pe_call
  have qpa4 := @pa4
  have qpa3 := @pa3
  have qpss_one := @pss_one
  have qps_expr := @ps_expr
  have qpe_bm := @pe_bm
  have qpe_tup := @pe_tup
  have qpss_nil := @pss_nil
  have qps_ret := @ps_ret
  have qpe_comp := @pe_comp
  unfold L2.CompBody at qpe_comp
  have qpi_list := @pi_list
  have qpe_callB := @pe_callB
  have qpif_nil := @pif_nil
  have qpa2 := @pa2
  have qpe_ix := @pe_ix
  generalize @L2.PE = QE, @L2.PT = QT, @L2.PW = QW, @L2.PA = QA, @L2.PS = QS, @L2.PSs = QSs, @L2.PG = QG, @L2.PGs = QGs, @L2.PI = QI, @L2.PO = QO, @L2.PIf = QIf at qpss3 qps_set qpe_lst qpa_nil qps_for qpi_range1 qpa1 qpe_int qpg_name qpss4 qpe_op qpv qps_if qPWpt qpw_and qpt_cmpR qpw_and1 qpss5 qpe_call qpa4 qpa3 qpss_one qps_expr qpe_bm qpe_tup qpss_nil qps_ret qpe_comp qpi_list qpe_callB qpif_nil qpa2 qpe_ix ⊢
  refine ⟨_,
    (qpss3
      (qps_set (i := 2) sc_law_rows.nd rfl (Or.inl rfl) (qpe_lst qpa_nil))
      (qps_for PassesOwn.never rfl (qpi_range1 rfl T.b_range (qpa1 qpe_int ns_Constant)) (qpg_name (i := 3) sc_law_rows.nd rfl (Or.inl rfl)) (qpss4
      (qps_set (i := 4) sc_law_rows.nd rfl (Or.inl rfl) (qpe_op op_mod (qpe_op op_fdiv (qpv 3) qpe_int) qpe_int))
      (qps_set (i := 5) sc_law_rows.nd rfl (Or.inl rfl) (qpe_op op_fdiv (qpv 3) qpe_int))
      (qps_set (i := 6) sc_law_rows.nd rfl (Or.inl rfl) (qpe_op op_sub qpe_int (qpe_op op_mod (qpv 3) qpe_int)))
      (qps_if (qPWpt (qpw_and (qpt_cmpR op_lt (qpe_op op_add (qpv 4) (qpv 6)) qpe_int (nomark _)) (qpw_and1 (qpt_cmpR op_lt (qpe_op op_sub (qpe_op op_add (qpv 5) qpe_int) (qpv 6)) qpe_int (nomark _))))) (qpss5
      (qps_set (i := 7) sc_law_rows.nd rfl (Or.inl rfl) (qpe_call (ok_law_spot T) (hr.mono (by decide)) rfl T.law_spot.mg T.law_spot.fn.kp T.law_spot.bn .nil pass0 (qpa4 (qpv 1) ns_Name (qpv 4) ns_Name (qpv 5) ns_Name qpe_int ns_Constant)))
      (qps_set (i := 8) sc_law_rows.nd rfl (Or.inl rfl) (qpe_call (ok_law_spot T) (hr.mono (by decide)) rfl T.law_spot.mg T.law_spot.fn.kp T.law_spot.bn .nil pass0 (qpa4 (qpv 1) ns_Name (qpe_op op_add (qpv 4) (qpv 6)) ns_BinOp (qpe_op op_sub (qpe_op op_add (qpv 5) qpe_int) (qpv 6)) ns_BinOp qpe_int ns_Constant)))
      (qps_set (i := 9) sc_law_rows.nd rfl (Or.inl rfl) (qpe_call (ok_law_in T) (hr.mono (by decide)) rfl T.law_in.mg T.law_in.fn.kp T.law_in.bn .nil pass0 (qpa3 (qpv 0) ns_Name (qpe_op op_add (qpe_op op_sub (qpv 4) qpe_int) (qpv 6)) ns_BinOp (qpv 5) ns_Name)))
      (qps_set (i := 10) sc_law_rows.nd rfl (Or.inl rfl) (qpe_call (ok_law_in T) (hr.mono (by decide)) rfl T.law_in.mg T.law_in.fn.kp T.law_in.bn .nil pass0 (qpa3 (qpv 0) ns_Name (qpv 4) ns_Name (qpe_op op_sub (qpv 5) (qpv 6)) ns_BinOp)))
      (qps_if (qpt_cmpR (op_lt3 (hu64 hr)) (qpv 7) (qpv 8) (nomark _)) (qpss_one (qps_expr (qpe_bm PySem.F.plainAttrs_list PySem.F.slot_list_append PySem.F.type_list_append mt_append (qpv 2) (qpa1 (qpe_tup (qpa4 (qpv 7) ns_Name (qpv 8) ns_Name (qpv 9) ns_Name (qpv 10) ns_Name)) ns_Tuple)))) (qpss_one (qps_expr (qpe_bm PySem.F.plainAttrs_list PySem.F.slot_list_append PySem.F.type_list_append mt_append (qpv 2) (qpa1 (qpe_tup (qpa4 (qpv 8) ns_Name (qpv 7) ns_Name (qpv 10) ns_Name (qpv 9) ns_Name)) ns_Tuple)))))) qpss_nil)))
      (qps_ret (qpe_comp (dsc := defScope s_law_rows) (N := ["_law_held_here", "_law_map_of", "_law_rows_here", "_law_k", "_law_x", "_law_y", "_law_dx", "_law_one", "_law_other", "_law_left", "_law_right"]) (own := ["_law_row"]) (ix := []) rfl rfl rfl ⟨rfl, by decide +kernel, by decide +kernel, by decide +kernel, by decide +kernel⟩ (qpi_list (qpe_callB (call_sortR (hu100 hr)) rfl T.b_sorted bt_sorted (qpa1 (qpv 2) ns_Name))) (fun cl C fp s2 H2 xe => ⟨(qpg_name (i := 0) (show List.Nodup (["_law_row"] : List Str) from by decide +kernel) rfl (Or.inl rfl)), qpif_nil, (qpe_tup (qpa3 (qpe_tup (qpa2 (qpe_call (ok_law_low T) (hr.mono (by decide)) rfl T.law_low.mg T.law_low.fn.kp T.law_low.bn .nil pass0 (qpa1 (qpe_ix ix_tupH (qpv 0) qpe_int (fun _ _ => rfl)) ns_Subscript)) ns_Call (qpe_call (ok_law_low T) (hr.mono (by decide)) rfl T.law_low.mg T.law_low.fn.kp T.law_low.bn .nil pass0 (qpa1 (qpe_ix ix_tupH (qpv 0) qpe_int (fun _ _ => rfl)) ns_Subscript)) ns_Call)) ns_Tuple (qpe_ix ix_tupH (qpv 0) qpe_int (fun _ _ => rfl)) ns_Subscript (qpe_ix ix_tupH (qpv 0) qpe_int (fun _ _ => rfl)) ns_Subscript))⟩))))
    , ?_⟩
  clear  qpss3 qps_set qpe_lst qpa_nil qps_for qpi_range1 qpa1 qpe_int qpg_name qpss4 qpe_op qpv qps_if qPWpt qpw_and qpt_cmpR qpw_and1 qpss5 qpe_call qpa4 qpa3 qpss_one qps_expr qpe_bm qpe_tup qpss_nil qps_ret qpe_comp qpi_list qpe_callB qpif_nil qpa2 qpe_ix QE QT QW QA QS QSs QG QGs QI QO QIf
  have hM := hp.2
  simp only [tSeq, tNext, tRet, tRetN, tIfS, tAsg, gName, tDrop, tVar, tC, tOp, tUn, rI, rI0, rU, rEq, rNe, tTest, tB, tNot, tAnd, tOr, tAndV, tOrV, tNotV, tIf, tCB, tCall, tNil, tCons, tTup, tLst, gTup, gCons, gNil, L2.start, rIsi, rIxT, rIxL, cx_K, tyN_non, tyN_bl, tyN_int, tyN_str, isi_ii, isi_ib, isi_it, isi_il, isi_bi, isi_bb, isi_tt, isi_ni, isi_si, isi_ti, isi_li, isi_di, isi_ll, scal_ii, scal_bb, sz0, sz1, sz2, sz3, sz4, List.map_cons, List.map_nil, List.length_cons, List.length_nil, List.replicate, List.cons_append, List.nil_append, List.append_nil, List.getElem?_cons_zero, List.getElem?_cons_succ, List.set_cons_zero, List.set_cons_succ, Option.some.injEq, V.int.injEq, V.bl.injEq, V.ref.injEq, V.ty.injEq, List.cons.injEq, and_true, true_and, exists_eq_left, exists_eq_left', exists_and_left, exists_and_right, exists_eq, exists_eq', and_assoc, Nat.reduceAdd, Nat.reduceSub, Bool.not_true, Bool.not_false, Bool.false_eq_true, if_true, if_false, reduceIte, Nat.zero_add, decide_true, decide_false, selC, comp_K, tYes, Option.join_some, rIxTH, rIxLH, rLenH, rIsiF, at0, at1, at2, at3, at4, at5, at6, at7, at8, HO.tup.injEq, HO.lst.injEq, reduceCtorEq, false_or, or_false, tyF_non, tyF_bl, tyF_int, tyF_str, exists_const, Int.reduceAdd, Int.reduceMul, Int.reduceSub, gSub, rSetL, tSl, tPart, tNoPart, rSlH, upd_same, upd_upd, rIntB, rListH, tBM, tBM0, rAppend, rClear, tPar, gTupH]
  intro D hD
  have gD := same_new hD (HO.lst [])
  refine tFor_mk ?_
  simp only [iRng1, tSeq, tNext, tRet, tRetN, tIfS, tAsg, gName, tDrop, tVar, tC, tOp, tUn, rI, rI0, rU, rEq, rNe, tTest, tB, tNot, tAnd, tOr, tAndV, tOrV, tNotV, tIf, tCB, tCall, tNil, tCons, tTup, tLst, gTup, gCons, gNil, L2.start, rIsi, rIxT, rIxL, cx_K, tyN_non, tyN_bl, tyN_int, tyN_str, isi_ii, isi_ib, isi_it, isi_il, isi_bi, isi_bb, isi_tt, isi_ni, isi_si, isi_ti, isi_li, isi_di, isi_ll, scal_ii, scal_bb, sz0, sz1, sz2, sz3, sz4, List.map_cons, List.map_nil, List.length_cons, List.length_nil, List.replicate, List.cons_append, List.nil_append, List.append_nil, List.getElem?_cons_zero, List.getElem?_cons_succ, List.set_cons_zero, List.set_cons_succ, Option.some.injEq, V.int.injEq, V.bl.injEq, V.ref.injEq, V.ty.injEq, List.cons.injEq, and_true, true_and, exists_eq_left, exists_eq_left', exists_and_left, exists_and_right, exists_eq, exists_eq', and_assoc, Nat.reduceAdd, Nat.reduceSub, Bool.not_true, Bool.not_false, Bool.false_eq_true, if_true, if_false, reduceIte, Nat.zero_add, decide_true, decide_false, selC, comp_K, tYes, Option.join_some, rIxTH, rIxLH, rLenH, rIsiF, at0, at1, at2, at3, at4, at5, at6, at7, at8, HO.tup.injEq, HO.lst.injEq, reduceCtorEq, false_or, or_false, tyF_non, tyF_bl, tyF_int, tyF_str, exists_const, Int.reduceAdd, Int.reduceMul, Int.reduceSub, gSub, rSetL, tSl, tPart, tNoPart, rSlH, upd_same, upd_upd, rIntB, rListH, tBM, tBM0, rAppend, rClear, tPar, gTupH]
  refine ⟨by decide, by decide, for_range (fun i σ H' => Same H H' ∧ ∃ (zs : List V) (o1 o2 o3 o4 o5 o6 o7 o8 : Option V), σ = [some (.ref l), some (.ref p), some (.ref D), o1, o2, o3, o4, o5, o6, o7, o8] ∧ H' D = some (.lst zs) ∧ LR RU H' zs ((brds i).map (rowOf (inB bs) M))) ⟨gD, [], none, none, none, none, none, none, none, none, rfl, upd_same, .nil⟩ ?_ ?_⟩
  · rintro i σ H2 hi ⟨g2, zs, o1, o2, o3, o4, o5, o6, o7, o8, rfl, hD2, hz⟩
    have hi : i < 50 := hi
    simp only [tSeq, tNext, tRet, tRetN, tIfS, tAsg, gName, tDrop, tVar, tC, tOp, tUn, rI, rI0, rU, rEq, rNe, tTest, tB, tNot, tAnd, tOr, tAndV, tOrV, tNotV, tIf, tCB, tCall, tNil, tCons, tTup, tLst, gTup, gCons, gNil, L2.start, rIsi, rIxT, rIxL, cx_K, tyN_non, tyN_bl, tyN_int, tyN_str, isi_ii, isi_ib, isi_it, isi_il, isi_bi, isi_bb, isi_tt, isi_ni, isi_si, isi_ti, isi_li, isi_di, isi_ll, scal_ii, scal_bb, sz0, sz1, sz2, sz3, sz4, List.map_cons, List.map_nil, List.length_cons, List.length_nil, List.replicate, List.cons_append, List.nil_append, List.append_nil, List.getElem?_cons_zero, List.getElem?_cons_succ, List.set_cons_zero, List.set_cons_succ, Option.some.injEq, V.int.injEq, V.bl.injEq, V.ref.injEq, V.ty.injEq, List.cons.injEq, and_true, true_and, exists_eq_left, exists_eq_left', exists_and_left, exists_and_right, exists_eq, exists_eq', and_assoc, Nat.reduceAdd, Nat.reduceSub, Bool.not_true, Bool.not_false, Bool.false_eq_true, if_true, if_false, reduceIte, Nat.zero_add, decide_true, decide_false, selC, comp_K, tYes, Option.join_some, rIxTH, rIxLH, rLenH, rIsiF, at0, at1, at2, at3, at4, at5, at6, at7, at8, HO.tup.injEq, HO.lst.injEq, reduceCtorEq, false_or, or_false, tyF_non, tyF_bl, tyF_int, tyF_str, exists_const, Int.reduceAdd, Int.reduceMul, Int.reduceSub, gSub, rSetL, tSl, tPart, tNoPart, rSlH, upd_same, upd_upd, rIntB, rListH, tBM, tBM0, rAppend, rClear, tPar, gTupH, Int.zero_add]
    have lb := brds_len i
    have lz : zs.length ≤ 50 := by rw [hz.1, List.length_map]; omega
    have none_ : ¬ ((i : Int) / 2 % 5 + (1 - (i : Int) % 2) < 5 ∧ (i : Int) / 10 + 1 - (1 - (i : Int) % 2) < 5) → Same H H2 ∧ ∃ zs, H2 D = some (HO.lst zs) ∧ LR RU H2 zs (List.map (rowOf (inB bs) M) (brds (i + 1))) := fun c => by
      have e : brd1 i = [] := by unfold brd1; rw [if_neg c]
      rw [brds_succ, e, List.append_nil]
      exact ⟨g2, zs, hD2, hz⟩
    refine ⟨⟨by decide, by decide⟩, by decide, ⟨by decide, by decide⟩, by decide, ite2 (fun c1 => ite2 (fun c2 => ?_) fun c2 => none_ fun z => c2 (decide_eq_true z.2)) fun c1 => none_ fun z => c1 (decide_eq_true z.1)⟩
    have c1 := of_decide_eq_true c1
    have c2 := of_decide_eq_true c2
    have e : brd1 i = [⟨(i : Int) / 2 % 5, (i : Int) / 10, (i : Int) / 2 % 5 + (1 - (i : Int) % 2), (i : Int) / 10 + 1 - (1 - (i : Int) % 2)⟩] := by unfold brd1; rw [if_pos ⟨c1, c2⟩]
    have wb := brd1_is (k := i) (by rw [e]; exact List.mem_singleton.mpr rfl) hi
    rw [brds_succ, e, List.map_append, List.map_cons, List.map_nil]
    have er : rowOf (inB bs) M ⟨(i : Int) / 2 % 5, (i : Int) / 10, (i : Int) / 2 % 5 + (1 - (i : Int) % 2), (i : Int) / 10 + 1 - (1 - (i : Int) % 2)⟩ =
      if lt3 (t3Q (spQ M ((i : Int) / 2 % 5) ((i : Int) / 10) 1)) (t3Q (spQ M ((i : Int) / 2 % 5 + (1 - (i : Int) % 2)) ((i : Int) / 10 + 1 - (1 - (i : Int) % 2)) 1)) = true then ⟨(spQ M ((i : Int) / 2 % 5) ((i : Int) / 10) 1, spQ M ((i : Int) / 2 % 5 + (1 - (i : Int) % 2)) ((i : Int) / 10 + 1 - (1 - (i : Int) % 2)) 1), inB bs ((i : Int) / 2 % 5 - 1 + (1 - (i : Int) % 2)) ((i : Int) / 10), inB bs ((i : Int) / 2 % 5) ((i : Int) / 10 - (1 - (i : Int) % 2))⟩
      else ⟨(spQ M ((i : Int) / 2 % 5 + (1 - (i : Int) % 2)) ((i : Int) / 10 + 1 - (1 - (i : Int) % 2)) 1, spQ M ((i : Int) / 2 % 5) ((i : Int) / 10) 1), inB bs ((i : Int) / 2 % 5) ((i : Int) / 10 - (1 - (i : Int) % 2)), inB bs ((i : Int) / 2 % 5 - 1 + (1 - (i : Int) % 2)) ((i : Int) / 10)⟩ := by
      have ed : (i : Int) / 2 % 5 + (1 - (i : Int) % 2) - (i : Int) / 2 % 5 = 1 - (i : Int) % 2 := by omega
      unfold rowOf
      simp only [ed]
    rw [er]
    clear er e none_
    simp only at wb
    generalize (i : Int) / 2 % 5 - 1 + (1 - (i : Int) % 2) = xl at *
    generalize (i : Int) / 10 - (1 - (i : Int) % 2) = yr at *
    generalize (i : Int) / 2 % 5 + (1 - (i : Int) % 2) = x1 at *
    generalize (i : Int) / 10 + 1 - (1 - (i : Int) % 2) = y1 at *
    generalize (i : Int) / 2 % 5 = x0 at *
    generalize (i : Int) / 10 = y0 at *
    have k1 : (1 : Int).natAbs ≤ 2 := by decide
    refine ⟨p, M, _, _, _, rfl, hp.same g2, by omega, by omega, k1, fun a H3 g3 ha3 => ⟨p, M, _, _, _, rfl, hp.same (g2.trans g3), by omega, by omega, k1, fun b H4 g4 hb4 => ⟨l, bs, _, _, rfl, hb.same (g2.trans (g3.trans g4)), l, bs, _, _, rfl, hb.same (g2.trans (g3.trans g4)), a, b, _, _, _, _, _, _, rfl, rfl, g4 _ _ ha3, hb4, _, rfl, ?_⟩⟩⟩
    have ha4 : QH H4 a (spQ M x0 y0 1) := g4 _ _ ha3
    have hb4 : QH H4 b (spQ M x1 y1 1) := hb4
    have g34 := g3.trans g4
    have g24 := g2.trans g34
    have hD4 := g34 _ _ hD2
    have hz4 := hz.ts ru_ts (ts_same g34)
    have put : ∀ (x y : Addr) (w : Rw), QH H4 x w.f.1 → QH H4 y w.f.2 → ∀ t, H4 t = none → ∃ us, upd H4 t (HO.tup [V.ref x, V.ref y, V.bl w.l, V.bl w.r]) D = some (HO.lst us) ∧ us.length < sizeLine ∧ Same H (upd (upd H4 t (HO.tup [V.ref x, V.ref y, V.bl w.l, V.bl w.r])) D (HO.lst (us ++ [V.ref t]))) ∧
        LR RU (upd (upd H4 t (HO.tup [V.ref x, V.ref y, V.bl w.l, V.bl w.r])) D (HO.lst (us ++ [V.ref t]))) (us ++ [V.ref t]) ((brds i).map (rowOf (inB bs) M) ++ [w]) := fun x y w hx hy t ht => by
      have g5 := same_new ht (HO.tup [V.ref x, V.ref y, V.bl w.l, V.bl w.r])
      have h5 : upd H4 t (HO.tup [V.ref x, V.ref y, V.bl w.l, V.bl w.r]) t = some (HO.tup [V.ref x, V.ref y, V.bl w.l, V.bl w.r]) := upd_same
      generalize upd H4 t (HO.tup [V.ref x, V.ref y, V.bl w.l, V.bl w.r]) = H5 at *
      have hD5 := g5 _ _ hD4
      exact ⟨zs, hD5, small1000 (by omega), same_put (g24.trans g5) hD, ((hz4.ts ru_ts (ts_same g5)).snoc (⟨x, y, h5, g5 _ _ hx, g5 _ _ hy⟩ : RU H5 t w)).ts ru_ts (ts_put hD5)⟩
    rw [lex3]
    refine ite2 (fun c => ⟨tyV_of hD4, ?_⟩) fun c => ⟨tyV_of hD4, ?_⟩
    · rw [if_pos (show lt3 (t3Q (spQ M x0 y0 1)) (t3Q (spQ M x1 y1 1)) = true from c)]
      exact put a b ⟨(spQ M x0 y0 1, spQ M x1 y1 1), _, _⟩ ha4 hb4
    · rw [if_neg (show ¬ lt3 (t3Q (spQ M x0 y0 1)) (t3Q (spQ M x1 y1 1)) = true from c)]
      exact put b a ⟨(spQ M x1 y1 1, spQ M x0 y0 1), _, _⟩ hb4 ha4
  · rintro σ H2 ⟨g2, zs, o1, o2, o3, o4, o5, o6, o7, o8, rfl, hD2, hz⟩
    simp only [tSeq, tNext, tRet, tRetN, tIfS, tAsg, gName, tDrop, tVar, tC, tOp, tUn, rI, rI0, rU, rEq, rNe, tTest, tB, tNot, tAnd, tOr, tAndV, tOrV, tNotV, tIf, tCB, tCall, tNil, tCons, tTup, tLst, gTup, gCons, gNil, L2.start, rIsi, rIxT, rIxL, cx_K, tyN_non, tyN_bl, tyN_int, tyN_str, isi_ii, isi_ib, isi_it, isi_il, isi_bi, isi_bb, isi_tt, isi_ni, isi_si, isi_ti, isi_li, isi_di, isi_ll, scal_ii, scal_bb, sz0, sz1, sz2, sz3, sz4, List.map_cons, List.map_nil, List.length_cons, List.length_nil, List.replicate, List.cons_append, List.nil_append, List.append_nil, List.getElem?_cons_zero, List.getElem?_cons_succ, List.set_cons_zero, List.set_cons_succ, Option.some.injEq, V.int.injEq, V.bl.injEq, V.ref.injEq, V.ty.injEq, List.cons.injEq, and_true, true_and, exists_eq_left, exists_eq_left', exists_and_left, exists_and_right, exists_eq, exists_eq', and_assoc, Nat.reduceAdd, Nat.reduceSub, Bool.not_true, Bool.not_false, Bool.false_eq_true, if_true, if_false, reduceIte, Nat.zero_add, decide_true, decide_false, selC, comp_K, tYes, Option.join_some, rIxTH, rIxLH, rLenH, rIsiF, at0, at1, at2, at3, at4, at5, at6, at7, at8, HO.tup.injEq, HO.lst.injEq, reduceCtorEq, false_or, or_false, tyF_non, tyF_bl, tyF_int, tyF_str, exists_const, Int.reduceAdd, Int.reduceMul, Int.reduceSub, gSub, rSetL, tSl, tPart, tNoPart, rSlH, upd_same, upd_upd, rIntB, rListH, tBM, tBM0, rAppend, rClear, tPar, gTupH]
    refine tComp_mk ?_
    simp only [iList, tSeq, tNext, tRet, tRetN, tIfS, tAsg, gName, tDrop, tVar, tC, tOp, tUn, rI, rI0, rU, rEq, rNe, tTest, tB, tNot, tAnd, tOr, tAndV, tOrV, tNotV, tIf, tCB, tCall, tNil, tCons, tTup, tLst, gTup, gCons, gNil, L2.start, rIsi, rIxT, rIxL, cx_K, tyN_non, tyN_bl, tyN_int, tyN_str, isi_ii, isi_ib, isi_it, isi_il, isi_bi, isi_bb, isi_tt, isi_ni, isi_si, isi_ti, isi_li, isi_di, isi_ll, scal_ii, scal_bb, sz0, sz1, sz2, sz3, sz4, List.map_cons, List.map_nil, List.length_cons, List.length_nil, List.replicate, List.cons_append, List.nil_append, List.append_nil, List.getElem?_cons_zero, List.getElem?_cons_succ, List.set_cons_zero, List.set_cons_succ, Option.some.injEq, V.int.injEq, V.bl.injEq, V.ref.injEq, V.ty.injEq, List.cons.injEq, and_true, true_and, exists_eq_left, exists_eq_left', exists_and_left, exists_and_right, exists_eq, exists_eq', and_assoc, Nat.reduceAdd, Nat.reduceSub, Bool.not_true, Bool.not_false, Bool.false_eq_true, if_true, if_false, reduceIte, Nat.zero_add, decide_true, decide_false, selC, comp_K, tYes, Option.join_some, rIxTH, rIxLH, rLenH, rIsiF, at0, at1, at2, at3, at4, at5, at6, at7, at8, HO.tup.injEq, HO.lst.injEq, reduceCtorEq, false_or, or_false, tyF_non, tyF_bl, tyF_int, tyF_str, exists_const, Int.reduceAdd, Int.reduceMul, Int.reduceSub, gSub, rSetL, tSl, tPart, tNoPart, rSlH, upd_same, upd_upd, rIntB, rListH, tBM, tBM0, rAppend, rClear, tPar, gTupH]
    have hz : LR RU H2 zs ((brds 50).map (rowOf (inB bs) M)) := hz
    have lb := brds_len 50
    have l0 : zs.length = (brds 50).length := by rw [hz.1, List.length_map]
    let z0 : Rw := ⟨(⟨0, 0, 0⟩, ⟨0, 0, 0⟩), false, false⟩
    have rowAt : ∀ i, i < zs.length → ∃ (q : Addr) (w : W4), zs.getD i .non = .ref q ∧ (brds 50)[i]? = some w ∧ ((brds 50).map (rowOf (inB bs) M)).getD i z0 = rowOf (inB bs) M w ∧ RU H2 q (rowOf (inB bs) M w) := fun i hi => by
      obtain ⟨q, r, e1, e2, e3⟩ := hz.at hi
      rw [List.getElem?_map] at e2
      cases e : (brds 50)[i]? with
      | none => rw [e] at e2; cases e2
      | some w =>
        rw [e] at e2
        cases e2
        exact ⟨q, w, by rw [List.getD_eq_getElem?_getD, e1]; rfl, rfl, by rw [List.getD_eq_getElem?_getD, List.getElem?_map, e]; rfl, e3⟩
    refine ⟨D, zs, fun i => (fun r : Rw => ([r.f.1.x, r.f.1.y, r.f.1.w], [r.f.2.x, r.f.2.y, r.f.2.w])) (((brds 50).map (rowOf (inB bs) M)).getD i z0), rfl, hD2, by omega, fun i hi => ?_, fun i j hi hj e => ?_, fun S p' hS or _ => ?_⟩
    · obtain ⟨q, w, e1, e2, e3, a, b, h1, h2, h3⟩ := rowAt i hi
      rw [e1]
      simp only [e3]
      exact ⟨q, a, b, _, _, _, _, _, _, _, _, rfl, rfl, h1, h2, h3⟩
    · obtain ⟨q, w, e1, e2, e3, _⟩ := rowAt i hi
      obtain ⟨q', w', e1', e2', e3', _⟩ := rowAt j hj
      simp only [e3, e3'] at e
      have ef : (rowOf (inB bs) M w).f = (rowOf (inB bs) M w').f := by
        revert e
        generalize rowOf (inB bs) M w = r
        generalize rowOf (inB bs) M w' = r'
        obtain ⟨⟨⟨_, _, _⟩, ⟨_, _, _⟩⟩, _, _⟩ := r
        obtain ⟨⟨⟨_, _, _⟩, ⟨_, _, _⟩⟩, _, _⟩ := r'
        intro e
        simp only [Prod.mk.injEq, List.cons.injEq, and_true] at e
        obtain ⟨⟨r1, r2, r3⟩, r4, r5, r6⟩ := e
        simp only [r1, r2, r3, r4, r5, r6]
      have ew := rowOf_inj hM (List.mem_of_getElem? e2) (List.mem_of_getElem? e2') ef
      subst ew
      obtain ⟨hi', ei⟩ := List.getElem?_eq_some_iff.mp e2
      obtain ⟨hj', ej⟩ := List.getElem?_eq_some_iff.mp e2'
      have nd := List.pairwise_iff_getElem.mp brds_nd
      rcases Nat.lt_trichotomy i j with h | h | h
      · exact absurd (ei.trans ej.symm) (nd i j hi' hj' h)
      · exact h
      · exact absurd (ej.trans ei.symm) (nd j i hj' hi' h)
    have g4 := same_new hS (HO.lst (p'.toList.map fun i => zs.getD i .non))
    have hS4 : upd H2 S (HO.lst (p'.toList.map fun i => zs.getD i .non)) S = some (HO.lst (p'.toList.map fun i => zs.getD i .non)) := upd_same
    generalize upd H2 S (HO.lst (p'.toList.map fun i => zs.getD i .non)) = H4 at *
    have lo : p'.toList.length = zs.length := by rw [or.length_eq, List.length_range]
    have pr : (p'.toList.map fun i => ((brds 50).map (rowOf (inB bs) M)).getD i z0).Perm ((brds 50).map (rowOf (inB bs) M)) := by
      have := or.map fun i => ((brds 50).map (rowOf (inB bs) M)).getD i z0
      have rg : ((List.range zs.length).map fun i => ((brds 50).map (rowOf (inB bs) M)).getD i z0) = (brds 50).map (rowOf (inB bs) M) := by
        rw [hz.1]
        refine List.ext_getElem (by simp) fun i h1 h2 => ?_
        have hi : i < ((brds 50).map (rowOf (inB bs) M)).length := h2
        rw [List.getElem_map, List.getElem_range, List.getD_eq_getElem?_getD, List.getElem?_eq_getElem hi]
        rfl
      rw [rg] at this
      exact this
    have hys : LR RU H4 (p'.toList.map fun i => zs.getD i .non) (p'.toList.map fun i => ((brds 50).map (rowOf (inB bs) M)).getD i z0) := by
      refine ⟨by rw [List.length_map, List.length_map], fun j v hv => ?_⟩
      rw [List.getElem?_map] at hv
      cases e : p'.toList[j]? with
      | none => rw [e] at hv; cases hv
      | some i =>
        rw [e] at hv
        have ev : zs.getD i .non = v := by simpa using hv
        have hi : i < zs.length := List.mem_range.mp (or.mem_iff.mp (List.mem_of_getElem? e))
        obtain ⟨q, w, e1, e2, e3, e4⟩ := rowAt i hi
        refine ⟨q, _, by rw [← ev, e1], ?_, ru_ts _ _ _ _ (ts_same g4) e4⟩
        rw [List.getElem?_map, e, Option.map_some, e3]
    generalize (p'.toList.map fun i => ((brds 50).map (rowOf (inB bs) M)).getD i z0) = rs at *
    have ly : (p'.toList.map fun i => zs.getD i .non).length ≤ 100 := by rw [List.length_map, lo]; omega
    generalize (p'.toList.map fun i => zs.getD i .non) = ys at *
    refine ⟨S, rfl, ⟨_, .of hS4⟩, fun A hA => ?_⟩
    refine comp_list (xs := ys) (iv_lr (fun H p w => RoH H p (lowR w)) rs H4 A) (iv_lr_nil hA) (fun i zs H' q => .of (q.1 _ _ hS4)) ?_ ?_
    · rintro i us H5 v hi hv iv
      obtain ⟨q, w, rfl, hw', hq⟩ := hys.2 i v hv
      obtain ⟨a, b, hq, ha, hb'⟩ := ru_ts _ _ _ _ (ts_same iv.1) hq
      simp only [tSeq, tNext, tRet, tRetN, tIfS, tAsg, gName, tDrop, tVar, tC, tOp, tUn, rI, rI0, rU, rEq, rNe, tTest, tB, tNot, tAnd, tOr, tAndV, tOrV, tNotV, tIf, tCB, tCall, tNil, tCons, tTup, tLst, gTup, gCons, gNil, L2.start, rIsi, rIxT, rIxL, cx_K, tyN_non, tyN_bl, tyN_int, tyN_str, isi_ii, isi_ib, isi_it, isi_il, isi_bi, isi_bb, isi_tt, isi_ni, isi_si, isi_ti, isi_li, isi_di, isi_ll, scal_ii, scal_bb, sz0, sz1, sz2, sz3, sz4, List.map_cons, List.map_nil, List.length_cons, List.length_nil, List.replicate, List.cons_append, List.nil_append, List.append_nil, List.getElem?_cons_zero, List.getElem?_cons_succ, List.set_cons_zero, List.set_cons_succ, Option.some.injEq, V.int.injEq, V.bl.injEq, V.ref.injEq, V.ty.injEq, List.cons.injEq, and_true, true_and, exists_eq_left, exists_eq_left', exists_and_left, exists_and_right, exists_eq, exists_eq', and_assoc, Nat.reduceAdd, Nat.reduceSub, Bool.not_true, Bool.not_false, Bool.false_eq_true, if_true, if_false, reduceIte, Nat.zero_add, decide_true, decide_false, selC, comp_K, tYes, Option.join_some, rIxTH, rIxLH, rLenH, rIsiF, at0, at1, at2, at3, at4, at5, at6, at7, at8, HO.tup.injEq, HO.lst.injEq, reduceCtorEq, false_or, or_false, tyF_non, tyF_bl, tyF_int, tyF_str, exists_const, Int.reduceAdd, Int.reduceMul, Int.reduceSub, gSub, rSetL, tSl, tPart, tNoPart, rSlH, upd_same, upd_upd, rIntB, rListH, tBM, tBM0, rAppend, rClear, tPar, gTupH, hq]
      refine ⟨a, _, rfl, ha, fun r H6 g6 hr => ?_⟩
      have hq6 := g6 _ _ hq
      simp only [tSeq, tNext, tRet, tRetN, tIfS, tAsg, gName, tDrop, tVar, tC, tOp, tUn, rI, rI0, rU, rEq, rNe, tTest, tB, tNot, tAnd, tOr, tAndV, tOrV, tNotV, tIf, tCB, tCall, tNil, tCons, tTup, tLst, gTup, gCons, gNil, L2.start, rIsi, rIxT, rIxL, cx_K, tyN_non, tyN_bl, tyN_int, tyN_str, isi_ii, isi_ib, isi_it, isi_il, isi_bi, isi_bb, isi_tt, isi_ni, isi_si, isi_ti, isi_li, isi_di, isi_ll, scal_ii, scal_bb, sz0, sz1, sz2, sz3, sz4, List.map_cons, List.map_nil, List.length_cons, List.length_nil, List.replicate, List.cons_append, List.nil_append, List.append_nil, List.getElem?_cons_zero, List.getElem?_cons_succ, List.set_cons_zero, List.set_cons_succ, Option.some.injEq, V.int.injEq, V.bl.injEq, V.ref.injEq, V.ty.injEq, List.cons.injEq, and_true, true_and, exists_eq_left, exists_eq_left', exists_and_left, exists_and_right, exists_eq, exists_eq', and_assoc, Nat.reduceAdd, Nat.reduceSub, Bool.not_true, Bool.not_false, Bool.false_eq_true, if_true, if_false, reduceIte, Nat.zero_add, decide_true, decide_false, selC, comp_K, tYes, Option.join_some, rIxTH, rIxLH, rLenH, rIsiF, at0, at1, at2, at3, at4, at5, at6, at7, at8, HO.tup.injEq, HO.lst.injEq, reduceCtorEq, false_or, or_false, tyF_non, tyF_bl, tyF_int, tyF_str, exists_const, Int.reduceAdd, Int.reduceMul, Int.reduceSub, gSub, rSetL, tSl, tPart, tNoPart, rSlH, upd_same, upd_upd, rIntB, rListH, tBM, tBM0, rAppend, rClear, tPar, gTupH, hq6]
      refine ⟨b, _, rfl, g6 _ _ hb', fun r' H7 g7 hr' => ?_⟩
      simp only [tSeq, tNext, tRet, tRetN, tIfS, tAsg, gName, tDrop, tVar, tC, tOp, tUn, rI, rI0, rU, rEq, rNe, tTest, tB, tNot, tAnd, tOr, tAndV, tOrV, tNotV, tIf, tCB, tCall, tNil, tCons, tTup, tLst, gTup, gCons, gNil, L2.start, rIsi, rIxT, rIxL, cx_K, tyN_non, tyN_bl, tyN_int, tyN_str, isi_ii, isi_ib, isi_it, isi_il, isi_bi, isi_bb, isi_tt, isi_ni, isi_si, isi_ti, isi_li, isi_di, isi_ll, scal_ii, scal_bb, sz0, sz1, sz2, sz3, sz4, List.map_cons, List.map_nil, List.length_cons, List.length_nil, List.replicate, List.cons_append, List.nil_append, List.append_nil, List.getElem?_cons_zero, List.getElem?_cons_succ, List.set_cons_zero, List.set_cons_succ, Option.some.injEq, V.int.injEq, V.bl.injEq, V.ref.injEq, V.ty.injEq, List.cons.injEq, and_true, true_and, exists_eq_left, exists_eq_left', exists_and_left, exists_and_right, exists_eq, exists_eq', and_assoc, Nat.reduceAdd, Nat.reduceSub, Bool.not_true, Bool.not_false, Bool.false_eq_true, if_true, if_false, reduceIte, Nat.zero_add, decide_true, decide_false, selC, comp_K, tYes, Option.join_some, rIxTH, rIxLH, rLenH, rIsiF, at0, at1, at2, at3, at4, at5, at6, at7, at8, HO.tup.injEq, HO.lst.injEq, reduceCtorEq, false_or, or_false, tyF_non, tyF_bl, tyF_int, tyF_str, exists_const, Int.reduceAdd, Int.reduceMul, Int.reduceSub, gSub, rSetL, tSl, tPart, tNoPart, rSlH, upd_same, upd_upd, rIntB, rListH, tBM, tBM0, rAppend, rClear, tPar, gTupH]
      intro t ht
      have g8 := same_new ht (HO.tup [V.ref r, V.ref r'])
      have h8 : upd H7 t (HO.tup [V.ref r, V.ref r']) t = some (HO.tup [V.ref r, V.ref r']) := upd_same
      generalize upd H7 t (HO.tup [V.ref r, V.ref r']) = H8 at *
      have hq8 := g8 _ _ (g7 _ _ hq6)
      simp only [tSeq, tNext, tRet, tRetN, tIfS, tAsg, gName, tDrop, tVar, tC, tOp, tUn, rI, rI0, rU, rEq, rNe, tTest, tB, tNot, tAnd, tOr, tAndV, tOrV, tNotV, tIf, tCB, tCall, tNil, tCons, tTup, tLst, gTup, gCons, gNil, L2.start, rIsi, rIxT, rIxL, cx_K, tyN_non, tyN_bl, tyN_int, tyN_str, isi_ii, isi_ib, isi_it, isi_il, isi_bi, isi_bb, isi_tt, isi_ni, isi_si, isi_ti, isi_li, isi_di, isi_ll, scal_ii, scal_bb, sz0, sz1, sz2, sz3, sz4, List.map_cons, List.map_nil, List.length_cons, List.length_nil, List.replicate, List.cons_append, List.nil_append, List.append_nil, List.getElem?_cons_zero, List.getElem?_cons_succ, List.set_cons_zero, List.set_cons_succ, Option.some.injEq, V.int.injEq, V.bl.injEq, V.ref.injEq, V.ty.injEq, List.cons.injEq, and_true, true_and, exists_eq_left, exists_eq_left', exists_and_left, exists_and_right, exists_eq, exists_eq', and_assoc, Nat.reduceAdd, Nat.reduceSub, Bool.not_true, Bool.not_false, Bool.false_eq_true, if_true, if_false, reduceIte, Nat.zero_add, decide_true, decide_false, selC, comp_K, tYes, Option.join_some, rIxTH, rIxLH, rLenH, rIsiF, at0, at1, at2, at3, at4, at5, at6, at7, at8, HO.tup.injEq, HO.lst.injEq, reduceCtorEq, false_or, or_false, tyF_non, tyF_bl, tyF_int, tyF_str, exists_const, Int.reduceAdd, Int.reduceMul, Int.reduceSub, gSub, rSetL, tSl, tPart, tNoPart, rSlH, upd_same, upd_upd, rIntB, rListH, tBM, tBM0, rAppend, rClear, tPar, gTupH, hq8]
      intro t' ht'
      have g9 := same_new ht' (HO.tup [V.ref t, V.bl w.l, V.bl w.r])
      exact iv_lr_put (fun H H' p w g => roh_ts H H' p (lowR w) g) hA (by omega) iv hi hw' (g6.trans (g7.trans (g8.trans g9))) ⟨t, upd_same, r, r', g9 _ _ h8, g9 _ _ (g8 _ _ (g7 _ _ hr)), g9 _ _ (g8 _ _ hr')⟩
    · rintro us H5 ⟨g5, hA5, hn5, hr5⟩
      rw [List.take_of_length_le (by rw [← hys.1]; exact Nat.le_refl _)] at hr5
      exact k A us rs H5 (g2.free (g4.free hA)) (g2.trans (g4.trans g5)) hA5 (LR.map (R := RoH) (f := lowR) hr5) pr
theorem nodup_flat {α β : Type} {f : α → List β} : ∀ {l : List α}, l.Nodup → (∀ a, a ∈ l → (f a).length ≤ 1) → (∀ a a' b, a ∈ l → a' ∈ l → b ∈ f a → b ∈ f a' → a = a') → (l.flatMap f).Nodup
  | [], _, _, _ => List.Pairwise.nil
  | a :: l, nd, h1, h2 => by
    obtain ⟨na, nd⟩ := List.nodup_cons.mp nd
    rw [List.flatMap_cons]
    refine List.nodup_append.mpr ⟨?_, nodup_flat nd (fun b hb => h1 b (List.mem_cons_of_mem _ hb)) fun b b' c hb hb' => h2 b b' c (List.mem_cons_of_mem _ hb) (List.mem_cons_of_mem _ hb'), fun x hx y hy e => ?_⟩
    · have := h1 a (List.mem_cons_self ..)
      match f a, this with
      | [], _ => exact List.Pairwise.nil
      | [b], _ => exact List.pairwise_singleton _ _
    · subst e
      obtain ⟨a', ha', hx'⟩ := List.mem_flatMap.mp hy
      have := h2 a a' x (List.mem_cons_self ..) (List.mem_cons_of_mem _ ha') hx hx'
      subst this
      exact na ha'
theorem idx_nd : (idxK 25).Nodup := by decide +kernel
theorem ways_nd (I : Int → Int → Bool) : (waysOf I).Nodup := by
  refine nodup_flat idx_nd (fun a _ => by unfold wayL; split <;> simp) fun a a' b ha ha' hb hb' => ?_
  unfold wayL at hb hb'
  split at hb
  · split at hb'
    · rw [List.mem_singleton] at hb hb'
      have f1 := far_ge I a.x0 a.y0 a.x1 a.y1 6 1
      have f2 := far_ge I a'.x0 a'.y0 a'.x1 a'.y1 6 1
      have d1 := (idx_dirs ha).1
      have d2 := (idx_dirs ha').1
      generalize farN I a.x0 a.y0 a.x1 a.y1 6 1 = n at *
      generalize farN I a'.x0 a'.y0 a'.x1 a'.y1 6 1 = n' at *
      rw [hb] at hb'
      injection hb' with e1 e2 e3 e4
      obtain ⟨x, y, dx, dy⟩ := a
      obtain ⟨x', y', dx', dy'⟩ := a'
      simp only at *
      subst e1 e2
      unfold dirs at d1 d2
      simp only [List.mem_cons, Prod.mk.injEq, List.not_mem_nil, or_false] at d1 d2
      have e : dx = dx' ∧ dy = dy' := by
        rcases d1 with ⟨rfl, rfl⟩ | ⟨rfl, rfl⟩ | ⟨rfl, rfl⟩ | ⟨rfl, rfl⟩ <;> rcases d2 with ⟨rfl, rfl⟩ | ⟨rfl, rfl⟩ | ⟨rfl, rfl⟩ | ⟨rfl, rfl⟩ <;> first | exact ⟨rfl, rfl⟩ | (exfalso; omega)
      rw [e.1, e.2]
    · cases hb'
  · cases hb
def spF (M : M7) (w : W4) : (Int × Int × Int) × (Int × Int × Int) := (t3Q (spQ M w.x0 w.y0 1), t3Q (spQ M w.x1 w.y1 1))
def lfF (M : M7) (w : W4) : Fc := (loQ (spQ M w.x0 w.y0 1), loQ (spQ M w.x1 w.y1 1))
theorem t3Q_inj {p q : Q3} (h : t3Q p = t3Q q) : p = q := by
  obtain ⟨x, y, w⟩ := p
  obtain ⟨x', y', w'⟩ := q
  unfold t3Q at h
  simp only [Prod.mk.injEq] at h
  obtain ⟨h1, h2, h3⟩ := h
  rw [h1, h2, h3]
theorem spF_inj {M : M7} (hM : MOk M) {w w' : W4} (h : spF M w = spF M w') : w = w' := by
  unfold spF at h
  obtain ⟨h1, h2⟩ := Prod.mk.injEq .. ▸ h
  have i1 := spQ_inj hM (t3Q_inj h1)
  have i2 := spQ_inj hM (t3Q_inj h2)
  obtain ⟨x0, y0, x1, y1⟩ := w
  obtain ⟨x0', y0', x1', y1'⟩ := w'
  simp only at i1 i2
  rw [i1.1, i1.2, i2.1, i2.2]
theorem nodup_map {α β : Type} {f : α → β} : ∀ {l : List α}, l.Nodup → (∀ a b, a ∈ l → b ∈ l → f a = f b → a = b) → (l.map f).Nodup := fun {l} nd inj => by
  refine List.pairwise_map.mpr ?_
  refine List.Pairwise.imp_of_mem (fun {a b} ha hb n e => n (inj a b ha hb e)) nd
def sp_lando : Sp := fun vs H Q _ => ∃ (l p : Addr) (bs : List Bool) (M : M7), vs = [.ref l, .ref p] ∧ BL H l bs ∧ MpH H p M ∧ ∀ D zs (ws : List W4) H', H D = none → Same H H' → H' D = some (.lst zs) → LR FeQ H' zs (ws.map (lfF M)) → ws.Perm (waysOf (inB bs)) → (ws.Pairwise fun a b => lt33 (spF M a) (spF M b) = true) → Q (.ref D) H'
def UO (M : M7) (H : Hp) (p : Addr) (w : W4) : Prop := FeQ H p (spQ M w.x0 w.y0 1, spQ M w.x1 w.y1 1)
theorem uo_ts {M : M7} : ∀ (H H' : Hp) (p : Addr) (w : W4), TupSame H H' → UO M H p w → UO M H' p w := fun _ _ _ _ g h => feq_ts _ _ _ _ g h
theorem ok_law_land (T : Txt K mg ad fd) : FnOk P w K mg base CX0 5 (ad 20) (fd 20) ["_law_held_here", "_law_map_of"] sp_lando := by
  refine T.law_land.fn.ok sc_law_land (fun vs H Q E h => ?_) (fun cdv A outer s H vs Q E hr h => ?_)
  · obtain ⟨l, p, bs, M, rfl, _⟩ := h
    rfl
  obtain ⟨l, p, bs, M, rfl, hb, hp, k⟩ := h
  have qpss3 := @pss3
  have qps_set := @ps_set
  have qpe_lst := @pe_lst
  have qpa_nil := @pa_nil
  have qps_for := @ps_for
  have qpi_list := @pi_list
  have qpe_call := @pe_call
  have qpa1 := @pa1
  have qpv := @pv
  have qpg_name := @pg_name
  have qpss_one := @pss_one
  have qps_expr := @ps_expr
  have qpe_bm := @pe_bm
  have qpe_tup := @pe_tup
  have qpa2 := @pa2
  have qpa4 := @pa4
  have qpe_ix := @pe_ix
  have qpe_int := @pe_int
  have qps_ret := @ps_ret
  have qpe_comp := @pe_comp
  unfold L2.CompBody at qpe_comp
  have qpe_callB := @pe_callB
  have qpg_tupH := @pg_tupH
  have qpgs_cons := @pgs_cons
  have qpgs_nil := @pgs_nil
  have qpif_nil := @pif_nil
  generalize @L2.PE = QE, @L2.PT = QT, @L2.PW = QW, @L2.PA = QA, @L2.PS = QS, @L2.PSs = QSs, @L2.PG = QG, @L2.PGs = QGs, @L2.PI = QI, @L2.PO = QO, @L2.PIf = QIf at qpss3 qps_set qpe_lst qpa_nil qps_for qpi_list qpe_call qpa1 qpv qpg_name qpss_one qps_expr qpe_bm qpe_tup qpa2 qpa4 qpe_ix qpe_int qps_ret qpe_comp qpe_callB qpg_tupH qpgs_cons qpgs_nil qpif_nil ⊢
  refine ⟨_,
    (qpss3
      (qps_set (i := 2) sc_law_land.nd rfl (Or.inl rfl) (qpe_lst qpa_nil))
      (qps_for PassesOwn.never rfl (qpi_list (qpe_call (ok_law_ways T) (hr.mono (by decide)) rfl T.law_ways.mg T.law_ways.fn.kp T.law_ways.bn .nil pass0 (qpa1 (qpv 0) ns_Name))) (qpg_name (i := 3) sc_law_land.nd rfl (Or.inl rfl)) (qpss_one (qps_expr (qpe_bm PySem.F.plainAttrs_list PySem.F.slot_list_append PySem.F.type_list_append mt_append (qpv 2) (qpa1 (qpe_tup (qpa2 (qpe_call (ok_law_spot T) (hr.mono (by decide)) rfl T.law_spot.mg T.law_spot.fn.kp T.law_spot.bn .nil pass0 (qpa4 (qpv 1) ns_Name (qpe_ix ix_tupH (qpv 3) qpe_int (fun _ _ => rfl)) ns_Subscript (qpe_ix ix_tupH (qpv 3) qpe_int (fun _ _ => rfl)) ns_Subscript qpe_int ns_Constant)) ns_Call (qpe_call (ok_law_spot T) (hr.mono (by decide)) rfl T.law_spot.mg T.law_spot.fn.kp T.law_spot.bn .nil pass0 (qpa4 (qpv 1) ns_Name (qpe_ix ix_tupH (qpv 3) qpe_int (fun _ _ => rfl)) ns_Subscript (qpe_ix ix_tupH (qpv 3) qpe_int (fun _ _ => rfl)) ns_Subscript qpe_int ns_Constant)) ns_Call)) ns_Tuple)))))
      (qps_ret (qpe_comp (dsc := defScope s_law_land) (N := ["_law_held_here", "_law_map_of", "_law_fences", "_law_way"]) (own := ["_law_one", "_law_other"]) (ix := []) rfl rfl rfl ⟨rfl, by decide +kernel, by decide +kernel, by decide +kernel, by decide +kernel⟩ (qpi_list (qpe_callB (call_sortO (hu100 hr)) rfl T.b_sorted bt_sorted (qpa1 (qpv 2) ns_Name))) (fun cl C fp s2 H2 xe => ⟨(qpg_tupH (n := 2) rfl (qpgs_cons (qpg_name (i := 0) (show List.Nodup (["_law_one", "_law_other"] : List Str) from by decide +kernel) rfl (Or.inl rfl) (Or.inr rfl)) (qpgs_cons (qpg_name (i := 1) (show List.Nodup (["_law_one", "_law_other"] : List Str) from by decide +kernel) rfl (Or.inl rfl) (Or.inr rfl)) qpgs_nil))), qpif_nil, (qpe_tup (qpa2 (qpe_call (ok_law_low T) (hr.mono (by decide)) rfl T.law_low.mg T.law_low.fn.kp T.law_low.bn .nil pass0 (qpa1 (qpv 0) ns_Name)) ns_Call (qpe_call (ok_law_low T) (hr.mono (by decide)) rfl T.law_low.mg T.law_low.fn.kp T.law_low.bn .nil pass0 (qpa1 (qpv 1) ns_Name)) ns_Call))⟩))))
    , ?_⟩
  clear  qpss3 qps_set qpe_lst qpa_nil qps_for qpi_list qpe_call qpa1 qpv qpg_name qpss_one qps_expr qpe_bm qpe_tup qpa2 qpa4 qpe_ix qpe_int qps_ret qpe_comp qpe_callB qpg_tupH qpgs_cons qpgs_nil qpif_nil QE QT QW QA QS QSs QG QGs QI QO QIf
  have hM := hp.2
  have wl := ways_len (inB_in bs)
  simp only [tSeq, tNext, tRet, tRetN, tIfS, tAsg, gName, tDrop, tVar, tC, tOp, tUn, rI, rI0, rU, rEq, rNe, tTest, tB, tNot, tAnd, tOr, tAndV, tOrV, tNotV, tIf, tCB, tCall, tNil, tCons, tTup, tLst, gTup, gCons, gNil, L2.start, rIsi, rIxT, rIxL, cx_K, tyN_non, tyN_bl, tyN_int, tyN_str, isi_ii, isi_ib, isi_it, isi_il, isi_bi, isi_bb, isi_tt, isi_ni, isi_si, isi_ti, isi_li, isi_di, isi_ll, scal_ii, scal_bb, sz0, sz1, sz2, sz3, sz4, List.map_cons, List.map_nil, List.length_cons, List.length_nil, List.replicate, List.cons_append, List.nil_append, List.append_nil, List.getElem?_cons_zero, List.getElem?_cons_succ, List.set_cons_zero, List.set_cons_succ, Option.some.injEq, V.int.injEq, V.bl.injEq, V.ref.injEq, V.ty.injEq, List.cons.injEq, and_true, true_and, exists_eq_left, exists_eq_left', exists_and_left, exists_and_right, exists_eq, exists_eq', and_assoc, Nat.reduceAdd, Nat.reduceSub, Bool.not_true, Bool.not_false, Bool.false_eq_true, if_true, if_false, reduceIte, Nat.zero_add, decide_true, decide_false, selC, comp_K, tYes, Option.join_some, rIxTH, rIxLH, rLenH, rIsiF, at0, at1, at2, at3, at4, at5, at6, at7, at8, HO.tup.injEq, HO.lst.injEq, reduceCtorEq, false_or, or_false, tyF_non, tyF_bl, tyF_int, tyF_str, exists_const, Int.reduceAdd, Int.reduceMul, Int.reduceSub, gSub, rSetL, tSl, tPart, tNoPart, rSlH, upd_same, upd_upd, rIntB, rListH, tBM, tBM0, rAppend, rClear, tPar, gTupH]
  intro D hD
  have gD := same_new hD (HO.lst [])
  refine tFor_mk ?_
  simp only [iList, tSeq, tNext, tRet, tRetN, tIfS, tAsg, gName, tDrop, tVar, tC, tOp, tUn, rI, rI0, rU, rEq, rNe, tTest, tB, tNot, tAnd, tOr, tAndV, tOrV, tNotV, tIf, tCB, tCall, tNil, tCons, tTup, tLst, gTup, gCons, gNil, L2.start, rIsi, rIxT, rIxL, cx_K, tyN_non, tyN_bl, tyN_int, tyN_str, isi_ii, isi_ib, isi_it, isi_il, isi_bi, isi_bb, isi_tt, isi_ni, isi_si, isi_ti, isi_li, isi_di, isi_ll, scal_ii, scal_bb, sz0, sz1, sz2, sz3, sz4, List.map_cons, List.map_nil, List.length_cons, List.length_nil, List.replicate, List.cons_append, List.nil_append, List.append_nil, List.getElem?_cons_zero, List.getElem?_cons_succ, List.set_cons_zero, List.set_cons_succ, Option.some.injEq, V.int.injEq, V.bl.injEq, V.ref.injEq, V.ty.injEq, List.cons.injEq, and_true, true_and, exists_eq_left, exists_eq_left', exists_and_left, exists_and_right, exists_eq, exists_eq', and_assoc, Nat.reduceAdd, Nat.reduceSub, Bool.not_true, Bool.not_false, Bool.false_eq_true, if_true, if_false, reduceIte, Nat.zero_add, decide_true, decide_false, selC, comp_K, tYes, Option.join_some, rIxTH, rIxLH, rLenH, rIsiF, at0, at1, at2, at3, at4, at5, at6, at7, at8, HO.tup.injEq, HO.lst.injEq, reduceCtorEq, false_or, or_false, tyF_non, tyF_bl, tyF_int, tyF_str, exists_const, Int.reduceAdd, Int.reduceMul, Int.reduceSub, gSub, rSetL, tSl, tPart, tNoPart, rSlH, upd_same, upd_upd, rIntB, rListH, tBM, tBM0, rAppend, rClear, tPar, gTupH]
  refine ⟨l, bs, rfl, hb.same gD, fun W zs H2 hW0 g2 hW hw => ⟨W, rfl, ⟨_, .of hW⟩, ?_⟩⟩
  have hWn : W ≠ D := (ne_of_none upd_same hW0).symm
  refine for_list (K := K) (a := W) (xs := zs) (fun i σ H' => Same H H' ∧ TupSame H2 H' ∧ H' W = some (.lst zs) ∧ ∃ (fs : List V) (o : Option V), σ = [some (.ref l), some (.ref p), some (.ref D), o] ∧ H' D = some (.lst fs) ∧ fs.length = i ∧ LR (UO M) H' fs ((waysOf (inB bs)).take i)) ⟨gD.trans g2, fun _ _ h => h, hW, [], none, rfl, g2 _ _ upd_same, rfl, by rw [List.take_zero]; exact .nil⟩ (fun i σ H' _ iv => .of iv.2.2.1) ?_ ?_
  · rintro i v σ H3 hi ⟨g3, t3, hW3, fs, o, rfl, hD3, hn, hf⟩
    obtain ⟨q, w, rfl, hw', hq⟩ := hw.2 i v hi
    have hq3 : H3 q = some (.tup [.int w.x0, .int w.y0, .int w.x1, .int w.y1]) := t3 _ _ hq
    have i40 : i < 40 := by have := (List.getElem?_eq_some_iff.mp hw').1; omega
    obtain ⟨b1, b2, b3, b4⟩ := way_in (inB_in bs) (List.mem_of_getElem? hw')
    have k1 : (1 : Int).natAbs ≤ 2 := by decide
    simp only [tSeq, tNext, tRet, tRetN, tIfS, tAsg, gName, tDrop, tVar, tC, tOp, tUn, rI, rI0, rU, rEq, rNe, tTest, tB, tNot, tAnd, tOr, tAndV, tOrV, tNotV, tIf, tCB, tCall, tNil, tCons, tTup, tLst, gTup, gCons, gNil, L2.start, rIsi, rIxT, rIxL, cx_K, tyN_non, tyN_bl, tyN_int, tyN_str, isi_ii, isi_ib, isi_it, isi_il, isi_bi, isi_bb, isi_tt, isi_ni, isi_si, isi_ti, isi_li, isi_di, isi_ll, scal_ii, scal_bb, sz0, sz1, sz2, sz3, sz4, List.map_cons, List.map_nil, List.length_cons, List.length_nil, List.replicate, List.cons_append, List.nil_append, List.append_nil, List.getElem?_cons_zero, List.getElem?_cons_succ, List.set_cons_zero, List.set_cons_succ, Option.some.injEq, V.int.injEq, V.bl.injEq, V.ref.injEq, V.ty.injEq, List.cons.injEq, and_true, true_and, exists_eq_left, exists_eq_left', exists_and_left, exists_and_right, exists_eq, exists_eq', and_assoc, Nat.reduceAdd, Nat.reduceSub, Bool.not_true, Bool.not_false, Bool.false_eq_true, if_true, if_false, reduceIte, Nat.zero_add, decide_true, decide_false, selC, comp_K, tYes, Option.join_some, rIxTH, rIxLH, rLenH, rIsiF, at0, at1, at2, at3, at4, at5, at6, at7, at8, HO.tup.injEq, HO.lst.injEq, reduceCtorEq, false_or, or_false, tyF_non, tyF_bl, tyF_int, tyF_str, exists_const, Int.reduceAdd, Int.reduceMul, Int.reduceSub, gSub, rSetL, tSl, tPart, tNoPart, rSlH, upd_same, upd_upd, rIntB, rListH, tBM, tBM0, rAppend, rClear, tPar, gTupH, hq3]
    refine ⟨tyV_of hD3, p, M, _, _, _, rfl, hp.same g3, b1, b2, k1, fun r H4 g4 hr => ?_⟩
    have hq4 := g4 _ _ hq3
    simp only [tSeq, tNext, tRet, tRetN, tIfS, tAsg, gName, tDrop, tVar, tC, tOp, tUn, rI, rI0, rU, rEq, rNe, tTest, tB, tNot, tAnd, tOr, tAndV, tOrV, tNotV, tIf, tCB, tCall, tNil, tCons, tTup, tLst, gTup, gCons, gNil, L2.start, rIsi, rIxT, rIxL, cx_K, tyN_non, tyN_bl, tyN_int, tyN_str, isi_ii, isi_ib, isi_it, isi_il, isi_bi, isi_bb, isi_tt, isi_ni, isi_si, isi_ti, isi_li, isi_di, isi_ll, scal_ii, scal_bb, sz0, sz1, sz2, sz3, sz4, List.map_cons, List.map_nil, List.length_cons, List.length_nil, List.replicate, List.cons_append, List.nil_append, List.append_nil, List.getElem?_cons_zero, List.getElem?_cons_succ, List.set_cons_zero, List.set_cons_succ, Option.some.injEq, V.int.injEq, V.bl.injEq, V.ref.injEq, V.ty.injEq, List.cons.injEq, and_true, true_and, exists_eq_left, exists_eq_left', exists_and_left, exists_and_right, exists_eq, exists_eq', and_assoc, Nat.reduceAdd, Nat.reduceSub, Bool.not_true, Bool.not_false, Bool.false_eq_true, if_true, if_false, reduceIte, Nat.zero_add, decide_true, decide_false, selC, comp_K, tYes, Option.join_some, rIxTH, rIxLH, rLenH, rIsiF, at0, at1, at2, at3, at4, at5, at6, at7, at8, HO.tup.injEq, HO.lst.injEq, reduceCtorEq, false_or, or_false, tyF_non, tyF_bl, tyF_int, tyF_str, exists_const, Int.reduceAdd, Int.reduceMul, Int.reduceSub, gSub, rSetL, tSl, tPart, tNoPart, rSlH, upd_same, upd_upd, rIntB, rListH, tBM, tBM0, rAppend, rClear, tPar, gTupH, hq4]
    refine ⟨p, M, _, _, _, rfl, hp.same (g3.trans g4), b3, b4, k1, fun r' H5 g5 hr' => ?_⟩
    simp only [tSeq, tNext, tRet, tRetN, tIfS, tAsg, gName, tDrop, tVar, tC, tOp, tUn, rI, rI0, rU, rEq, rNe, tTest, tB, tNot, tAnd, tOr, tAndV, tOrV, tNotV, tIf, tCB, tCall, tNil, tCons, tTup, tLst, gTup, gCons, gNil, L2.start, rIsi, rIxT, rIxL, cx_K, tyN_non, tyN_bl, tyN_int, tyN_str, isi_ii, isi_ib, isi_it, isi_il, isi_bi, isi_bb, isi_tt, isi_ni, isi_si, isi_ti, isi_li, isi_di, isi_ll, scal_ii, scal_bb, sz0, sz1, sz2, sz3, sz4, List.map_cons, List.map_nil, List.length_cons, List.length_nil, List.replicate, List.cons_append, List.nil_append, List.append_nil, List.getElem?_cons_zero, List.getElem?_cons_succ, List.set_cons_zero, List.set_cons_succ, Option.some.injEq, V.int.injEq, V.bl.injEq, V.ref.injEq, V.ty.injEq, List.cons.injEq, and_true, true_and, exists_eq_left, exists_eq_left', exists_and_left, exists_and_right, exists_eq, exists_eq', and_assoc, Nat.reduceAdd, Nat.reduceSub, Bool.not_true, Bool.not_false, Bool.false_eq_true, if_true, if_false, reduceIte, Nat.zero_add, decide_true, decide_false, selC, comp_K, tYes, Option.join_some, rIxTH, rIxLH, rLenH, rIsiF, at0, at1, at2, at3, at4, at5, at6, at7, at8, HO.tup.injEq, HO.lst.injEq, reduceCtorEq, false_or, or_false, tyF_non, tyF_bl, tyF_int, tyF_str, exists_const, Int.reduceAdd, Int.reduceMul, Int.reduceSub, gSub, rSetL, tSl, tPart, tNoPart, rSlH, upd_same, upd_upd, rIntB, rListH, tBM, tBM0, rAppend, rClear, tPar, gTupH]
    intro t ht
    have g6 := same_new ht (HO.tup [V.ref r, V.ref r'])
    have h6 : upd H5 t (HO.tup [V.ref r, V.ref r']) t = some (HO.tup [V.ref r, V.ref r']) := upd_same
    generalize upd H5 t (HO.tup [V.ref r, V.ref r']) = H6 at *
    have g36 := g4.trans (g5.trans g6)
    have hD6 := g36 _ _ hD3
    have hW6 := g36 _ _ hW3
    have st : UO M H6 t w := ⟨r, r', h6, g6 _ _ (g5 _ _ hr), g6 _ _ hr'⟩
    refine ⟨fs, hD6, Nat.lt_of_le_of_lt (show fs.length ≤ 40 by omega) (by decide), same_put (g3.trans g36) hD, ts_trans t3 (ts_trans (ts_same g36) (ts_put hD6)), by rw [upd_ne hWn]; exact hW6, ?_⟩
    refine ⟨by rw [List.length_append, hn]; rfl, ?_⟩
    rw [List.take_add_one, hw']
    exact ((hf.ts uo_ts (ts_same g36)).snoc st).ts uo_ts (ts_put hD6)
  · rintro σ H3 ⟨g3, t3, hW3, fs, o, rfl, hD3, hn, hf⟩
    rw [List.take_of_length_le (by rw [hw.1]; exact Nat.le_refl _)] at hf
    simp only [tSeq, tNext, tRet, tRetN, tIfS, tAsg, gName, tDrop, tVar, tC, tOp, tUn, rI, rI0, rU, rEq, rNe, tTest, tB, tNot, tAnd, tOr, tAndV, tOrV, tNotV, tIf, tCB, tCall, tNil, tCons, tTup, tLst, gTup, gCons, gNil, L2.start, rIsi, rIxT, rIxL, cx_K, tyN_non, tyN_bl, tyN_int, tyN_str, isi_ii, isi_ib, isi_it, isi_il, isi_bi, isi_bb, isi_tt, isi_ni, isi_si, isi_ti, isi_li, isi_di, isi_ll, scal_ii, scal_bb, sz0, sz1, sz2, sz3, sz4, List.map_cons, List.map_nil, List.length_cons, List.length_nil, List.replicate, List.cons_append, List.nil_append, List.append_nil, List.getElem?_cons_zero, List.getElem?_cons_succ, List.set_cons_zero, List.set_cons_succ, Option.some.injEq, V.int.injEq, V.bl.injEq, V.ref.injEq, V.ty.injEq, List.cons.injEq, and_true, true_and, exists_eq_left, exists_eq_left', exists_and_left, exists_and_right, exists_eq, exists_eq', and_assoc, Nat.reduceAdd, Nat.reduceSub, Bool.not_true, Bool.not_false, Bool.false_eq_true, if_true, if_false, reduceIte, Nat.zero_add, decide_true, decide_false, selC, comp_K, tYes, Option.join_some, rIxTH, rIxLH, rLenH, rIsiF, at0, at1, at2, at3, at4, at5, at6, at7, at8, HO.tup.injEq, HO.lst.injEq, reduceCtorEq, false_or, or_false, tyF_non, tyF_bl, tyF_int, tyF_str, exists_const, Int.reduceAdd, Int.reduceMul, Int.reduceSub, gSub, rSetL, tSl, tPart, tNoPart, rSlH, upd_same, upd_upd, rIntB, rListH, tBM, tBM0, rAppend, rClear, tPar, gTupH]
    refine tComp_mk ?_
    simp only [iList, tSeq, tNext, tRet, tRetN, tIfS, tAsg, gName, tDrop, tVar, tC, tOp, tUn, rI, rI0, rU, rEq, rNe, tTest, tB, tNot, tAnd, tOr, tAndV, tOrV, tNotV, tIf, tCB, tCall, tNil, tCons, tTup, tLst, gTup, gCons, gNil, L2.start, rIsi, rIxT, rIxL, cx_K, tyN_non, tyN_bl, tyN_int, tyN_str, isi_ii, isi_ib, isi_it, isi_il, isi_bi, isi_bb, isi_tt, isi_ni, isi_si, isi_ti, isi_li, isi_di, isi_ll, scal_ii, scal_bb, sz0, sz1, sz2, sz3, sz4, List.map_cons, List.map_nil, List.length_cons, List.length_nil, List.replicate, List.cons_append, List.nil_append, List.append_nil, List.getElem?_cons_zero, List.getElem?_cons_succ, List.set_cons_zero, List.set_cons_succ, Option.some.injEq, V.int.injEq, V.bl.injEq, V.ref.injEq, V.ty.injEq, List.cons.injEq, and_true, true_and, exists_eq_left, exists_eq_left', exists_and_left, exists_and_right, exists_eq, exists_eq', and_assoc, Nat.reduceAdd, Nat.reduceSub, Bool.not_true, Bool.not_false, Bool.false_eq_true, if_true, if_false, reduceIte, Nat.zero_add, decide_true, decide_false, selC, comp_K, tYes, Option.join_some, rIxTH, rIxLH, rLenH, rIsiF, at0, at1, at2, at3, at4, at5, at6, at7, at8, HO.tup.injEq, HO.lst.injEq, reduceCtorEq, false_or, or_false, tyF_non, tyF_bl, tyF_int, tyF_str, exists_const, Int.reduceAdd, Int.reduceMul, Int.reduceSub, gSub, rSetL, tSl, tPart, tNoPart, rSlH, upd_same, upd_upd, rIntB, rListH, tBM, tBM0, rAppend, rClear, tPar, gTupH]
    let z0 : W4 := ⟨0, 0, 0, 0⟩
    have l0 := hf.1
    have wayAt : ∀ i, i < fs.length → ∃ (q : Addr) (w : W4), fs.getD i .non = .ref q ∧ (waysOf (inB bs)).getD i z0 = w ∧ UO M H3 q w := fun i hi => by
      obtain ⟨q, r, e1, e2, e3⟩ := hf.at hi
      exact ⟨q, r, by rw [List.getD_eq_getElem?_getD, e1]; rfl, by rw [List.getD_eq_getElem?_getD, e2]; rfl, e3⟩
    refine ⟨D, fs, fun i => (fun w : W4 => ([(spQ M w.x0 w.y0 1).x, (spQ M w.x0 w.y0 1).y, (spQ M w.x0 w.y0 1).w], [(spQ M w.x1 w.y1 1).x, (spQ M w.x1 w.y1 1).y, (spQ M w.x1 w.y1 1).w])) ((waysOf (inB bs)).getD i z0), rfl, hD3, by omega, fun i hi => ?_, fun i j hi hj e => ?_, fun S p' hS or ep => ?_⟩
    · obtain ⟨q, w, e1, e2, a, b, h1, h2, h3⟩ := wayAt i hi
      rw [e1]
      simp only [e2]
      exact ⟨q, a, b, _, _, _, _, _, _, rfl, rfl, h1, h2, h3⟩
    · have hi' : i < (waysOf (inB bs)).length := by omega
      have hj' : j < (waysOf (inB bs)).length := by omega
      have ei : (waysOf (inB bs)).getD i z0 = (waysOf (inB bs))[i] := by rw [List.getD_eq_getElem?_getD, List.getElem?_eq_getElem hi']; rfl
      have ej : (waysOf (inB bs)).getD j z0 = (waysOf (inB bs))[j] := by rw [List.getD_eq_getElem?_getD, List.getElem?_eq_getElem hj']; rfl
      simp only [ei, ej] at e
      have es : spF M (waysOf (inB bs))[i] = spF M (waysOf (inB bs))[j] := by
        simp only [Prod.mk.injEq, List.cons.injEq, and_true] at e
        obtain ⟨⟨r1, r2, r3⟩, r4, r5, r6⟩ := e
        unfold spF t3Q
        rw [r1, r2, r3, r4, r5, r6]
      have ew := spF_inj hM es
      have nd := List.pairwise_iff_getElem.mp (ways_nd (inB bs))
      rcases Nat.lt_trichotomy i j with h | h | h
      · exact absurd ew (nd i j hi' hj' h)
      · exact h
      · exact absurd ew.symm (nd j i hj' hi' h)
    simp only [ltP_six] at ep
    have nd : ((waysOf (inB bs)).map (spF M)).Nodup := nodup_map (ways_nd _) fun a b _ _ e => spF_inj hM e
    have g4 := same_new hS (HO.lst (p'.toList.map fun i => fs.getD i .non))
    have hS4 : upd H3 S (HO.lst (p'.toList.map fun i => fs.getD i .non)) S = some (HO.lst (p'.toList.map fun i => fs.getD i .non)) := upd_same
    generalize upd H3 S (HO.lst (p'.toList.map fun i => fs.getD i .non)) = H4 at *
    have lo : p'.toList.length = fs.length := by rw [or.length_eq, List.length_range]
    have hys : LR (UO M) H4 (p'.toList.map fun i => fs.getD i .non) (p'.toList.map fun i => (waysOf (inB bs)).getD i z0) := by
      refine ⟨by rw [List.length_map, List.length_map], fun j v hv => ?_⟩
      rw [List.getElem?_map] at hv
      cases e : p'.toList[j]? with
      | none => rw [e] at hv; cases hv
      | some i =>
        rw [e] at hv
        have ev : fs.getD i .non = v := by simpa using hv
        have hi : i < fs.length := List.mem_range.mp (or.mem_iff.mp (List.mem_of_getElem? e))
        obtain ⟨q, w, e1, e2, e4⟩ := wayAt i hi
        refine ⟨q, _, by rw [← ev, e1], ?_, uo_ts _ _ _ _ (ts_same g4) e4⟩
        rw [List.getElem?_map, e, Option.map_some, e2]
    rw [l0] at or ep
    obtain ⟨pm, pw⟩ := sorted_of sto33 (spF M) z0 nd or ep
    generalize (p'.toList.map fun i => (waysOf (inB bs)).getD i z0) = ws at *
    have ly : (p'.toList.map fun i => fs.getD i .non).length ≤ 100 := by rw [List.length_map, lo]; omega
    generalize (p'.toList.map fun i => fs.getD i .non) = ys at *
    refine ⟨S, rfl, ⟨_, .of hS4⟩, fun A hA => ?_⟩
    refine comp_list (xs := ys) (iv_lr (fun H p w => FeQ H p (lfF M w)) ws H4 A) (iv_lr_nil hA) (fun i zs H' q => .of (q.1 _ _ hS4)) ?_ ?_
    · rintro i rs H5 v hi hv iv
      obtain ⟨q, w, rfl, hw', hq⟩ := hys.2 i v hv
      obtain ⟨a, b, hq, ha, hb'⟩ := uo_ts _ _ _ _ (ts_same iv.1) hq
      simp only [tSeq, tNext, tRet, tRetN, tIfS, tAsg, gName, tDrop, tVar, tC, tOp, tUn, rI, rI0, rU, rEq, rNe, tTest, tB, tNot, tAnd, tOr, tAndV, tOrV, tNotV, tIf, tCB, tCall, tNil, tCons, tTup, tLst, gTup, gCons, gNil, L2.start, rIsi, rIxT, rIxL, cx_K, tyN_non, tyN_bl, tyN_int, tyN_str, isi_ii, isi_ib, isi_it, isi_il, isi_bi, isi_bb, isi_tt, isi_ni, isi_si, isi_ti, isi_li, isi_di, isi_ll, scal_ii, scal_bb, sz0, sz1, sz2, sz3, sz4, List.map_cons, List.map_nil, List.length_cons, List.length_nil, List.replicate, List.cons_append, List.nil_append, List.append_nil, List.getElem?_cons_zero, List.getElem?_cons_succ, List.set_cons_zero, List.set_cons_succ, Option.some.injEq, V.int.injEq, V.bl.injEq, V.ref.injEq, V.ty.injEq, List.cons.injEq, and_true, true_and, exists_eq_left, exists_eq_left', exists_and_left, exists_and_right, exists_eq, exists_eq', and_assoc, Nat.reduceAdd, Nat.reduceSub, Bool.not_true, Bool.not_false, Bool.false_eq_true, if_true, if_false, reduceIte, Nat.zero_add, decide_true, decide_false, selC, comp_K, tYes, Option.join_some, rIxTH, rIxLH, rLenH, rIsiF, at0, at1, at2, at3, at4, at5, at6, at7, at8, HO.tup.injEq, HO.lst.injEq, reduceCtorEq, false_or, or_false, tyF_non, tyF_bl, tyF_int, tyF_str, exists_const, Int.reduceAdd, Int.reduceMul, Int.reduceSub, gSub, rSetL, tSl, tPart, tNoPart, rSlH, upd_same, upd_upd, rIntB, rListH, tBM, tBM0, rAppend, rClear, tPar, gTupH, hq]
      refine ⟨a, _, rfl, ha, fun r H6 g6 hr => ⟨b, _, rfl, g6 _ _ hb', fun r' H7 g7 hr' => ?_⟩⟩
      simp only [tSeq, tNext, tRet, tRetN, tIfS, tAsg, gName, tDrop, tVar, tC, tOp, tUn, rI, rI0, rU, rEq, rNe, tTest, tB, tNot, tAnd, tOr, tAndV, tOrV, tNotV, tIf, tCB, tCall, tNil, tCons, tTup, tLst, gTup, gCons, gNil, L2.start, rIsi, rIxT, rIxL, cx_K, tyN_non, tyN_bl, tyN_int, tyN_str, isi_ii, isi_ib, isi_it, isi_il, isi_bi, isi_bb, isi_tt, isi_ni, isi_si, isi_ti, isi_li, isi_di, isi_ll, scal_ii, scal_bb, sz0, sz1, sz2, sz3, sz4, List.map_cons, List.map_nil, List.length_cons, List.length_nil, List.replicate, List.cons_append, List.nil_append, List.append_nil, List.getElem?_cons_zero, List.getElem?_cons_succ, List.set_cons_zero, List.set_cons_succ, Option.some.injEq, V.int.injEq, V.bl.injEq, V.ref.injEq, V.ty.injEq, List.cons.injEq, and_true, true_and, exists_eq_left, exists_eq_left', exists_and_left, exists_and_right, exists_eq, exists_eq', and_assoc, Nat.reduceAdd, Nat.reduceSub, Bool.not_true, Bool.not_false, Bool.false_eq_true, if_true, if_false, reduceIte, Nat.zero_add, decide_true, decide_false, selC, comp_K, tYes, Option.join_some, rIxTH, rIxLH, rLenH, rIsiF, at0, at1, at2, at3, at4, at5, at6, at7, at8, HO.tup.injEq, HO.lst.injEq, reduceCtorEq, false_or, or_false, tyF_non, tyF_bl, tyF_int, tyF_str, exists_const, Int.reduceAdd, Int.reduceMul, Int.reduceSub, gSub, rSetL, tSl, tPart, tNoPart, rSlH, upd_same, upd_upd, rIntB, rListH, tBM, tBM0, rAppend, rClear, tPar, gTupH]
      intro t ht
      have g8 := same_new ht (HO.tup [V.ref r, V.ref r'])
      exact iv_lr_put (fun H H' p w g => feq_ts H H' p (lfF M w) g) hA (by omega) iv hi hw' (g6.trans (g7.trans g8)) ⟨r, r', upd_same, g8 _ _ (g7 _ _ hr), g8 _ _ hr'⟩
    · rintro rs H5 ⟨g5, hA5, hn5, hr5⟩
      rw [List.take_of_length_le (by rw [← hys.1]; exact Nat.le_refl _)] at hr5
      exact k A rs ws H5 (g3.free (g4.free hA)) (g3.trans (g4.trans g5)) hA5 (LR.map (R := FeQ) (f := lfF M) hr5) pm pw
def toE (w : W4) : W4 := ⟨w.x0, w.y0, w.x0 + w.x1, w.y0 + w.y1⟩
def lvE (I : Int → Int → Bool) (w : W4) : Bool := lvB I w.x0 w.y0 (w.x1 - w.x0) (w.y1 - w.y0)
def rev4 (w : W4) : W4 := ⟨w.x1, w.y1, w.x0, w.y0⟩
def EI (I : Int → Int → Bool) : List W4 := (idxK 25).filter fun w => lvB I w.x0 w.y0 w.x1 w.y1
def inG (w : W4) : Bool := decide (0 ≤ w.x1 ∧ w.x1 ≤ 4 ∧ 0 ≤ w.y1 ∧ w.y1 ≤ 4)
theorem grid_perm : ((brds 50).flatMap fun b => [b, rev4 b]).Perm (((idxK 25).map toE).filter inG) := List.isPerm_iff.mp (by decide +kernel)
abbrev Dom (I : Int → Int → Bool) : Prop := ∀ x y, I x y = true → (0 ≤ x ∧ x < 4) ∧ (0 ≤ y ∧ y < 4)
theorem lv_in {I : Int → Int → Bool} (h : Dom I) {x y : Int} {d : Int × Int} (hd : d ∈ dirs) (hv : lvB I x y d.1 d.2 = true) : (0 ≤ x ∧ x ≤ 4 ∧ 0 ≤ y ∧ y ≤ 4) ∧ (0 ≤ x + d.1 ∧ x + d.1 ≤ 4 ∧ 0 ≤ y + d.2 ∧ y + d.2 ≤ 4) := by
  have b2p : ∀ b : Bool, b2 b ≠ 0 → b = true := fun b hb => by cases b <;> first | rfl | exact absurd rfl hb
  unfold dirs at hd
  simp only [List.mem_cons, List.not_mem_nil, or_false] at hd
  rcases hd with rfl | rfl | rfl | rfl <;> simp [lvB, eH, eV] at hv ⊢
  · have := h x y (b2p _ (by have := b2_cases (I x (y - 1)); omega)); omega
  · have := h (x - 1) y (b2p _ (by have := b2_cases (I x y); omega)); omega
  · have := h (x + -1) (y - 1) (b2p _ (by have := b2_cases (I (x + -1) y); omega)); omega
  · have := h x (y + -1) (b2p _ (by have := b2_cases (I (x - 1) (y + -1)); omega)); omega
def du (I : Int → Int → Bool) (b : W4) : List W4 := (if (I (b.x0 - 1 + (b.x1 - b.x0)) b.y0 && !I b.x0 (b.y0 - (b.x1 - b.x0))) = true then [b] else []) ++ if (I b.x0 (b.y0 - (b.x1 - b.x0)) && !I (b.x0 - 1 + (b.x1 - b.x0)) b.y0) = true then [rev4 b] else []
theorem fen_row (I : Int → Int → Bool) (M : M7) (b : W4) : fen1 (lowR (rowOf I M b)) = (du I b).map (lfF M) := by
  unfold rowOf du
  generalize I (b.x0 - 1 + (b.x1 - b.x0)) b.y0 = l
  generalize I b.x0 (b.y0 - (b.x1 - b.x0)) = r
  split <;> cases l <;> cases r <;> rfl
theorem du_filter (I : Int → Int → Bool) {b : W4} (h : (b.x1 = b.x0 + 1 ∧ b.y1 = b.y0) ∨ (b.x1 = b.x0 ∧ b.y1 = b.y0 + 1)) : du I b = [b, rev4 b].filter (lvE I) := by
  obtain ⟨x0, y0, x1, y1⟩ := b
  simp only at h
  rcases h with ⟨rfl, rfl⟩ | ⟨rfl, rfl⟩
  · have e1 : x0 + 1 - x0 = 1 := by omega
    have e2 : x0 - 1 + 1 = x0 := by omega
    have e3 : x0 - (x0 + 1) = -1 := by omega
    have e4 : x0 + 1 + -1 = x0 := by omega
    have l1 : lvE I ⟨x0, y1, x0 + 1, y1⟩ = decide (b2 (I x0 y1) - b2 (I x0 (y1 - 1)) = 1) := by
      simp [lvE, lvB, eH, e1]
    have l2 : lvE I (rev4 ⟨x0, y1, x0 + 1, y1⟩) = decide (b2 (I x0 y1) - b2 (I x0 (y1 - 1)) = -1) := by
      simp [lvE, lvB, eH, e3, e4, rev4]
    rw [List.filter_cons, List.filter_cons, List.filter_nil, l1, l2]
    unfold du
    simp only [e1, e2]
    generalize I x0 y1 = l
    generalize I x0 (y1 - 1) = r
    cases l <;> cases r <;> rfl
  · have e3 : y0 + 1 - y0 = 1 := by omega
    have e4 : y0 - (y0 + 1) = -1 := by omega
    have e5 : y0 + 1 + -1 = y0 := by omega
    have e6 : y0 - 0 = y0 := by omega
    have l1 : lvE I ⟨x1, y0, x1, y0 + 1⟩ = decide (b2 (I (x1 - 1) y0) - b2 (I x1 y0) = 1) := by
      simp [lvE, lvB, eV, e3]
    have l2 : lvE I (rev4 ⟨x1, y0, x1, y0 + 1⟩) = decide (b2 (I (x1 - 1) y0) - b2 (I x1 y0) = -1) := by
      simp [lvE, lvB, eV, e4, e5, rev4]
    rw [List.filter_cons, List.filter_cons, List.filter_nil, l1, l2]
    unfold du
    have e1' : x1 - x1 = 0 := by omega
    have e2' : x1 - 1 + 0 = x1 - 1 := by omega
    simp only [e1', e2', e6]
    generalize I (x1 - 1) y0 = l
    generalize I x1 y0 = r
    cases l <;> cases r <;> rfl
theorem idx_lv {I : Int → Int → Bool} (w : W4) : lvE I (toE w) = lvB I w.x0 w.y0 w.x1 w.y1 := by
  unfold lvE toE
  have e1 : w.x0 + w.x1 - w.x0 = w.x1 := by omega
  have e2 : w.y0 + w.y1 - w.y0 = w.y1 := by omega
  simp only [e1, e2]
theorem fs_perm {I : Int → Int → Bool} (hI : Dom I) {M : M7} {rs : List Rw} (pr : rs.Perm ((brds 50).map (rowOf I M))) : ((rs.map lowR).flatMap fen1).Perm ((EI I).map fun w => lfF M (toE w)) := by
  have p1 := List.Perm.flatMap_right fen1 (pr.map lowR)
  refine p1.trans ?_
  have e1 : (((brds 50).map (rowOf I M)).map lowR).flatMap fen1 = (((brds 50).flatMap fun b => [b, rev4 b]).filter (lvE I)).map (lfF M) := by
    rw [List.map_map, List.flatMap_map, List.filter_flatMap, List.map_flatMap]
    refine flat_congr _ fun b hb => ?_
    show fen1 (lowR (rowOf I M b)) = _
    rw [fen_row, du_filter I (brds_is (by omega) hb).2.2]
  rw [e1]
  have p2 := (grid_perm.filter (lvE I)).map (lfF M)
  refine p2.trans ?_
  have e2 : (((idxK 25).map toE).filter inG).filter (lvE I) = (EI I).map toE := by
    rw [List.filter_filter]
    unfold EI
    rw [List.filter_map]
    congr 1
    refine List.filter_congr fun w hw => ?_
    show (lvE I (toE w) && inG (toE w)) = lvB I w.x0 w.y0 w.x1 w.y1
    rw [idx_lv]
    cases e : lvB I w.x0 w.y0 w.x1 w.y1 with
    | false => rfl
    | true =>
      have := lv_in hI (idx_dirs hw).1 e
      show decide _ = true
      exact decide_eq_true this.2
  rw [e2, List.map_map]
  exact .refl _
def outs (I : Int → Int → Bool) (x y : Int) : List (Int × Int) := dirs.filter fun d => lvB I x y d.1 d.2
def ins (I : Int → Int → Bool) (x y : Int) : List (Int × Int) := dirs.filter fun d => lvB I (x - d.1) (y - d.2) d.1 d.2
def ifL (c : Bool) (d : Int × Int) : List (Int × Int) := if c = true then [d] else []
def out4 (a b c e : Bool) : List (Int × Int) := ifL (decide (b2 e - b2 b = 1)) (1, 0) ++ (ifL (decide (b2 c - b2 e = 1)) (0, 1) ++ (ifL (decide (b2 c - b2 a = -1)) (-1, 0) ++ ifL (decide (b2 a - b2 b = -1)) (0, -1)))
def in4 (a b c e : Bool) : List (Int × Int) := ifL (decide (b2 c - b2 a = 1)) (1, 0) ++ (ifL (decide (b2 a - b2 b = 1)) (0, 1) ++ (ifL (decide (b2 e - b2 b = -1)) (-1, 0) ++ ifL (decide (b2 c - b2 e = -1)) (0, -1)))
def sm4 (a b c e : Bool) : Bool := if b2 c - b2 a = 0 ∧ b2 e - b2 b = 0 then decide (b2 a - b2 b ≠ 0 ∧ b2 a - b2 b = b2 c - b2 e) else decide ((b2 a - b2 b = 0 ∧ b2 c - b2 e = 0) ∧ b2 c - b2 a = b2 e - b2 b)
theorem filter4 (p : Int × Int → Bool) : dirs.filter p = ifL (p (1, 0)) (1, 0) ++ (ifL (p (0, 1)) (0, 1) ++ (ifL (p (-1, 0)) (-1, 0) ++ ifL (p (0, -1)) (0, -1))) := by
  unfold dirs ifL
  rw [List.filter_cons, List.filter_cons, List.filter_cons, List.filter_cons, List.filter_nil]
  cases p (1, 0) <;> cases p (0, 1) <;> cases p (-1, 0) <;> cases p (0, -1) <;> rfl
theorem outs_is (I : Int → Int → Bool) (x y : Int) : outs I x y = out4 (I (x - 1) (y - 1)) (I x (y - 1)) (I (x - 1) y) (I x y) := by
  have e1 : x + -1 = x - 1 := by omega
  have e2 : y + -1 = y - 1 := by omega
  unfold outs out4
  rw [filter4]
  simp [lvB, eH, eV, e1, e2]
theorem ins_is (I : Int → Int → Bool) (x y : Int) : ins I x y = in4 (I (x - 1) (y - 1)) (I x (y - 1)) (I (x - 1) y) (I x y) := by
  have e1 : x - -1 = x + 1 := by omega
  have e2 : y - -1 = y + 1 := by omega
  have e3 : x + 1 + -1 = x := by omega
  have e4 : y + 1 + -1 = y := by omega
  unfold ins in4
  rw [filter4]
  simp [lvB, eH, eV, e1, e2, e3, e4]
theorem sm_is (I : Int → Int → Bool) (x y : Int) : smB I x y = sm4 (I (x - 1) (y - 1)) (I x (y - 1)) (I (x - 1) y) (I x y) := rfl
theorem all16 : ∀ a b c e : Bool, (sm4 a b c e = true → (dirs.any fun d => decide (out4 a b c e = [d] ∧ in4 a b c e = [d])) = true) ∧ (sm4 a b c e = false → (dirs.all fun d => dirs.all fun d' => decide (¬ (out4 a b c e = [d] ∧ in4 a b c e = [d'] ∧ d'.1 * d.2 - d'.2 * d.1 = 0))) = true) := by decide +kernel
theorem sm_yes {I : Int → Int → Bool} {x y : Int} (h : smB I x y = true) : ∃ d, d ∈ dirs ∧ outs I x y = [d] ∧ ins I x y = [d] := by
  rw [sm_is] at h
  obtain ⟨d, hd, e⟩ := List.any_eq_true.mp ((all16 _ _ _ _).1 h)
  have e := of_decide_eq_true e
  exact ⟨d, hd, (outs_is I x y).trans e.1, (ins_is I x y).trans e.2⟩
theorem sm_no {I : Int → Int → Bool} {x y : Int} (h : smB I x y = false) {d d' : Int × Int} (h1 : outs I x y = [d]) (h2 : ins I x y = [d']) : d'.1 * d.2 - d'.2 * d.1 ≠ 0 := by
  rw [sm_is] at h
  have hd : d ∈ dirs := (List.mem_filter.mp (show d ∈ outs I x y by rw [h1]; simp)).1
  have hd' : d' ∈ dirs := (List.mem_filter.mp (show d' ∈ ins I x y by rw [h2]; simp)).1
  have z := of_decide_eq_true (List.all_eq_true.mp (List.all_eq_true.mp ((all16 _ _ _ _).2 h) d hd) d' hd')
  rw [outs_is] at h1
  rw [ins_is] at h2
  exact fun e => z ⟨h1, h2, e⟩
theorem start_idx : ∀ k, k < 25 → (idxK 25).filter (fun w => decide (w.x0 = ((k : Nat) : Int) % 5 ∧ w.y0 = (k : Int) / 5)) = dirs.map fun d => ⟨(k : Int) % 5, (k : Int) / 5, d.1, d.2⟩ := by decide +kernel
def stG (w : W4) : Bool := decide (0 ≤ w.x0 ∧ w.x0 ≤ 4 ∧ 0 ≤ w.y0 ∧ w.y0 ≤ 4)
theorem end_idx : ∀ k, k < 25 → (((idxK 25).filter fun w => decide (w.x0 + w.x1 = ((k : Nat) : Int) % 5 ∧ w.y0 + w.y1 = (k : Int) / 5)).isPerm ((dirs.map fun d => (⟨(k : Int) % 5 - d.1, (k : Int) / 5 - d.2, d.1, d.2⟩ : W4)).filter stG)) = true := by decide +kernel
theorem k_of {x y : Int} (h : 0 ≤ x ∧ x ≤ 4 ∧ 0 ≤ y ∧ y ≤ 4) : ∃ k : Nat, k < 25 ∧ x = (k : Int) % 5 ∧ y = (k : Int) / 5 := ⟨(5 * y + x).toNat, by omega, by omega, by omega⟩
theorem go_EI {I : Int → Int → Bool} {x y : Int} (h : 0 ≤ x ∧ x ≤ 4 ∧ 0 ≤ y ∧ y ≤ 4) : (EI I).filter (fun w => decide (w.x0 = x ∧ w.y0 = y)) = (outs I x y).map fun d => ⟨x, y, d.1, d.2⟩ := by
  obtain ⟨k, hk, rfl, rfl⟩ := k_of h
  unfold EI outs
  rw [List.filter_filter]
  rw [show (fun w : W4 => decide (w.x0 = (k : Int) % 5 ∧ w.y0 = (k : Int) / 5) && lvB I w.x0 w.y0 w.x1 w.y1) = fun w => lvB I w.x0 w.y0 w.x1 w.y1 && decide (w.x0 = (k : Int) % 5 ∧ w.y0 = (k : Int) / 5) from funext fun w => Bool.and_comm _ _]
  rw [← List.filter_filter, start_idx k hk, List.filter_map]
  rfl
theorem co_EI {I : Int → Int → Bool} (hI : Dom I) {x y : Int} (h : 0 ≤ x ∧ x ≤ 4 ∧ 0 ≤ y ∧ y ≤ 4) : ((EI I).filter (fun w => decide (w.x0 + w.x1 = x ∧ w.y0 + w.y1 = y))).Perm ((ins I x y).map fun d => ⟨x - d.1, y - d.2, d.1, d.2⟩) := by
  obtain ⟨k, hk, rfl, rfl⟩ := k_of h
  unfold EI ins
  rw [List.filter_filter]
  rw [show (fun w : W4 => decide (w.x0 + w.x1 = (k : Int) % 5 ∧ w.y0 + w.y1 = (k : Int) / 5) && lvB I w.x0 w.y0 w.x1 w.y1) = fun w => lvB I w.x0 w.y0 w.x1 w.y1 && decide (w.x0 + w.x1 = (k : Int) % 5 ∧ w.y0 + w.y1 = (k : Int) / 5) from funext fun w => Bool.and_comm _ _]
  rw [← List.filter_filter]
  refine ((List.isPerm_iff.mp (end_idx k hk)).filter _).trans ?_
  rw [List.filter_filter, List.filter_map]
  refine .of_eq ?_
  congr 1
  refine List.filter_congr fun d hd => ?_
  show (lvB I _ _ d.1 d.2 && stG _) = _
  cases e : lvB I ((k : Int) % 5 - d.1) ((k : Int) / 5 - d.2) d.1 d.2 with
  | false => rfl
  | true => exact decide_eq_true (lv_in hI hd e).1
def phi (M : M7) (x y : Int) : Q3 := loQ (spQ M x y 1)
theorem q3ext {p q : Q3} (h1 : p.x = q.x) (h2 : p.y = q.y) (h3 : p.w = q.w) : p = q := by
  obtain ⟨_, _, _⟩ := p
  obtain ⟨_, _, _⟩ := q
  simp only at h1 h2 h3
  rw [h1, h2, h3]
theorem phi_inj {M : M7} (hM : MOk M) {x y x' y' : Int} (h : phi M x y = phi M x' y') : x = x' ∧ y = y' := by
  refine spQ_inj hM ?_
  obtain ⟨k, hk, k1, k2, k3⟩ := sc_loQ (spQ M x y 1)
  obtain ⟨l, hl, l1, l2, l3⟩ := sc_loQ (spQ M x' y' 1)
  have hw := (sc_loQ (spQ M x y 1)).wpos (by show 0 < M.m * 1; have := hM.mp; omega)
  have h : loQ (spQ M x y 1) = loQ (spQ M x' y' 1) := h
  rw [← h] at l1 l2 l3
  have e : (spQ M x y 1).w = (spQ M x' y' 1).w := rfl
  rw [k3, l3] at e
  have kl : k = l := Int.eq_of_mul_eq_mul_right (by omega) e
  subst kl
  exact q3ext (k1.trans l1.symm) (k2.trans l2.symm) (k3.trans l3.symm)
theorem lfE (M : M7) (w : W4) : lfF M (toE w) = (phi M w.x0 w.y0, phi M (w.x0 + w.x1) (w.y0 + w.y1)) := rfl
theorem go_phi {I : Int → Int → Bool} {M : M7} (hM : MOk M) {fs : List Fc} (pf : fs.Perm ((EI I).map fun w => lfF M (toE w))) {x y : Int} (h : 0 ≤ x ∧ x ≤ 4 ∧ 0 ≤ y ∧ y ≤ 4) : (goL fs (phi M x y)).Perm ((outs I x y).map fun d => phi M (x + d.1) (y + d.2)) := by
  unfold goL
  refine ((pf.filter _).map _).trans (.of_eq ?_)
  rw [List.filter_map, List.map_map]
  have e : (EI I).filter ((fun f : Fc => decide (f.1 = phi M x y)) ∘ fun w => lfF M (toE w)) = (EI I).filter (fun w => decide (w.x0 = x ∧ w.y0 = y)) := List.filter_congr fun w _ => by
    show decide (phi M w.x0 w.y0 = phi M x y) = decide (w.x0 = x ∧ w.y0 = y)
    refine decide_eq_decide.mpr ⟨fun z => phi_inj hM z, fun z => by rw [z.1, z.2]⟩
  rw [e, go_EI h, List.map_map]
  rfl
theorem co_phi {I : Int → Int → Bool} (hI : Dom I) {M : M7} (hM : MOk M) {fs : List Fc} (pf : fs.Perm ((EI I).map fun w => lfF M (toE w))) {x y : Int} (h : 0 ≤ x ∧ x ≤ 4 ∧ 0 ≤ y ∧ y ≤ 4) : (coL fs (phi M x y)).Perm ((ins I x y).map fun d => phi M (x - d.1) (y - d.2)) := by
  unfold coL
  refine ((pf.filter _).map _).trans ?_
  rw [List.filter_map, List.map_map]
  have e : (EI I).filter ((fun f : Fc => decide (f.2 = phi M x y)) ∘ fun w => lfF M (toE w)) = (EI I).filter (fun w => decide (w.x0 + w.x1 = x ∧ w.y0 + w.y1 = y)) := List.filter_congr fun w _ => by
    show decide (phi M (w.x0 + w.x1) (w.y0 + w.y1) = phi M x y) = decide (w.x0 + w.x1 = x ∧ w.y0 + w.y1 = y)
    refine decide_eq_decide.mpr ⟨fun z => phi_inj hM z, fun z => by rw [z.1, z.2]⟩
  rw [e]
  refine ((co_EI hI h).map _).trans (.of_eq ?_)
  rw [List.map_map]
  rfl
theorem det_phi {M : M7} (hM : MOk M) (x y : Int) (d d' : Int × Int) : detQ (phi M (x - d'.1) (y - d'.2)) (phi M x y) (phi M (x + d.1) (y + d.2)) = 0 ↔ d'.1 * d.2 - d'.2 * d.1 = 0 := by
  obtain ⟨K, hK, e⟩ := det_sc (sc_loQ (spQ M (x - d'.1) (y - d'.2) 1)) (sc_loQ (spQ M x y 1)) (sc_loQ (spQ M (x + d.1) (y + d.2) 1))
  have e2 : detQ (spQ M (x - d'.1) (y - d'.2) 1) (spQ M x y 1) (spQ M (x + d.1) (y + d.2) 1) = (M.m * (M.a * M.d - M.b * M.c)) * (d'.1 * d.2 - d'.2 * d.1) := by
    unfold detQ det3 lnA lnB lnC spQ
    grind
  have mp : 0 < M.m * (M.a * M.d - M.b * M.c) := Int.mul_pos hM.mp (quad_det hM.q)
  unfold phi
  rw [e] at e2
  constructor
  · intro z
    rw [z, Int.mul_zero] at e2
    exact (Int.mul_eq_zero.mp e2.symm).resolve_left (by omega)
  · intro z
    rw [z, Int.mul_zero] at e2
    exact (Int.mul_eq_zero.mp e2).resolve_left (by omega)
theorem perm_one {α : Type} {l : List α} {a : α} (h : l.Perm [a]) : l = [a] := List.perm_singleton.mp h
section
variable {I : Int → Int → Bool} (hI : Dom I) {M : M7} (hM : MOk M) {fs : List Fc} (pf : fs.Perm ((EI I).map fun w => lfF M (toE w)))
include hI hM pf
theorem nxt_no {x y : Int} (h : 0 ≤ x ∧ x ≤ 4 ∧ 0 ≤ y ∧ y ≤ 4) (s : smB I x y = false) : nxt fs (phi M x y) = none := by
  have pg := go_phi hM pf h
  have pc := co_phi hI hM pf h
  by_cases l1 : (outs I x y).length = 1
  · by_cases l2 : (ins I x y).length = 1
    · obtain ⟨d, hd⟩ := List.length_eq_one_iff.mp l1
      obtain ⟨d', hd'⟩ := List.length_eq_one_iff.mp l2
      rw [hd] at pg
      rw [hd'] at pc
      rw [nxt_two (perm_one pg) (perm_one pc), if_neg]
      intro z
      exact sm_no s hd hd' ((det_phi hM x y d d').mp z)
    · exact nxt_co fun z => l2 (by have := pc.length_eq; rw [List.length_map] at this; omega)
  · exact nxt_go fun z => l1 (by have := pg.length_eq; rw [List.length_map] at this; omega)
theorem nxt_yes {x y : Int} (s : smB I x y = true) : ∃ d, d ∈ dirs ∧ outs I x y = [d] ∧ ins I x y = [d] ∧ nxt fs (phi M x y) = some (phi M (x + d.1) (y + d.2)) := by
  obtain ⟨d, hd, h1, h2⟩ := sm_yes s
  have hx := sm_in hI s
  have h : 0 ≤ x ∧ x ≤ 4 ∧ 0 ≤ y ∧ y ≤ 4 := ⟨hx.1.1, hx.1.2, hx.2.1, hx.2.2⟩
  have pg := go_phi hM pf h
  have pc := co_phi hI hM pf h
  rw [h1] at pg
  rw [h2] at pc
  refine ⟨d, hd, h1, h2, ?_⟩
  rw [nxt_two (perm_one pg) (perm_one pc), if_pos]
  exact (det_phi hM x y d d).mpr (by rw [Int.mul_comm d.2 d.1]; omega)
theorem nxt_on {x y : Int} {d : Int × Int} (hd : d ∈ dirs) (s : smB I x y = true) (hv : lvB I (x - d.1) (y - d.2) d.1 d.2 = true) : nxt fs (phi M x y) = some (phi M (x + d.1) (y + d.2)) ∧ lvB I x y d.1 d.2 = true := by
  obtain ⟨d', hd', h1, h2, h3⟩ := nxt_yes hI hM pf s
  have m : d ∈ ins I x y := List.mem_filter.mpr ⟨hd, hv⟩
  rw [h2, List.mem_singleton] at m
  subst m
  exact ⟨h3, (List.mem_filter.mp (show d ∈ outs I x y by rw [h1]; simp)).2⟩
theorem nxt_start {x y : Int} (h : 0 ≤ x ∧ x ≤ 4 ∧ 0 ≤ y ∧ y ≤ 4) : (nxt fs (phi M x y)).isNone = !smB I x y := by
  cases s : smB I x y with
  | false => rw [nxt_no hI hM pf h s]; rfl
  | true =>
    obtain ⟨d, _, _, _, e⟩ := nxt_yes hI hM pf s
    rw [e]
    rfl
theorem fol_far {x y : Int} {d : Int × Int} (hd : d ∈ dirs) (hx : 0 ≤ x ∧ x ≤ 4) (hy : 0 ≤ y ∧ y ≤ 4) : ∀ (g f n : Nat), 7 - f = g → 1 ≤ f → f ≤ 6 → g ≤ n → lvB I (x + (f - 1 : Nat) * d.1) (y + (f - 1 : Nat) * d.2) d.1 d.2 = true →
    fol (nxt fs) n (phi M (x + f * d.1) (y + f * d.2)) = phi M (x + farN I x y d.1 d.2 (7 - f) f * d.1) (y + farN I x y d.1 d.2 (7 - f) f * d.2) ∧ nxt fs (phi M (x + farN I x y d.1 d.2 (7 - f) f * d.1) (y + farN I x y d.1 d.2 (7 - f) f * d.2)) = none
  | 0, f, n, hg, h1, h6, hn, hv => by omega
  | g + 1, f, n, hg, h1, h6, hn, hv => by
    have ex : x + (f - 1 : Nat) * d.1 + d.1 = x + f * d.1 := by
      rw [show ((f : Nat) : Int) = ((f - 1 : Nat) : Int) + 1 by omega, Int.add_mul]; omega
    have ey : y + (f - 1 : Nat) * d.2 + d.2 = y + f * d.2 := by
      rw [show ((f : Nat) : Int) = ((f - 1 : Nat) : Int) + 1 by omega, Int.add_mul]; omega
    have gr := (lv_in hI hd hv).2
    rw [ex, ey] at gr
    cases s : smB I (x + f * d.1) (y + f * d.2) with
    | false =>
      rw [far_false h6 s]
      have z := nxt_no hI hM pf gr s
      exact ⟨fol_none z n, z⟩
    | true =>
      have f4 := far_lt hI hd hx hy s
      have hv' : lvB I (x + f * d.1 - d.1) (y + f * d.2 - d.2) d.1 d.2 = true := by
        rw [← ex, ← ey, Int.add_sub_cancel, Int.add_sub_cancel]
        exact hv
      obtain ⟨e, lv⟩ := nxt_on hI hM pf hd s hv'
      rw [far_true h6 s]
      obtain ⟨n', rfl⟩ : ∃ n', n = n' + 1 := ⟨n - 1, by omega⟩
      have ih := fol_far hd hx hy g (f + 1) n' (by omega) (by omega) (by omega) (by omega) (by rw [Nat.add_sub_cancel]; exact lv)
      have ex' : x + f * d.1 + d.1 = x + (f + 1 : Nat) * d.1 := by
        rw [show ((f + 1 : Nat) : Int) = (f : Int) + 1 by omega, Int.add_mul]; omega
      have ey' : y + f * d.2 + d.2 = y + (f + 1 : Nat) * d.2 := by
        rw [show ((f + 1 : Nat) : Int) = (f : Int) + 1 by omega, Int.add_mul]; omega
      rw [ex', ey'] at e
      refine ⟨?_, ih.2⟩
      rw [← ih.1]
      conv => lhs; unfold fol; rw [e]
theorem fol_way {w : W4} (hw : w ∈ idxK 25) (hv : lvB I w.x0 w.y0 w.x1 w.y1 = true) : fol (nxt fs) 10 (phi M (w.x0 + w.x1) (w.y0 + w.y1)) = phi M (w.x0 + farN I w.x0 w.y0 w.x1 w.y1 6 1 * w.x1) (w.y0 + farN I w.x0 w.y0 w.x1 w.y1 6 1 * w.y1) ∧ nxt fs (fol (nxt fs) 10 (phi M (w.x0 + w.x1) (w.y0 + w.y1))) = none := by
  have hd := (idx_dirs hw).1
  have gr := (lv_in hI hd hv).1
  have z := fol_far hI hM pf (x := w.x0) (y := w.y0) hd ⟨gr.1, gr.2.1⟩ ⟨gr.2.2.1, gr.2.2.2⟩ 6 1 10 rfl (by omega) (by omega) (by omega) (by simpa using hv)
  have e1 : w.x0 + ((1 : Nat) : Int) * w.x1 = w.x0 + w.x1 := by omega
  have e2 : w.y0 + ((1 : Nat) : Int) * w.y1 = w.y0 + w.y1 := by omega
  simp only at z
  rw [e1, e2] at z
  refine ⟨z.1, ?_⟩
  rw [z.1]
  exact z.2
theorem fs_stops : Stops fs := fun f hf _ => by
  obtain ⟨w, hw, e⟩ := List.mem_map.mp (pf.mem_iff.mp hf)
  obtain ⟨h1, h2⟩ := List.mem_filter.mp hw
  rw [← e, lfE]
  exact (fol_way hI hM pf h1 h2).2
theorem told_perm : (toldL fs).Perm ((waysOf I).map (lfF M)) := by
  unfold toldL
  refine (List.Perm.flatMap_right _ pf).trans (.of_eq ?_)
  rw [List.flatMap_map]
  unfold waysOf EI
  rw [List.map_flatMap]
  have : ∀ l : List W4, (∀ w, w ∈ l → w ∈ idxK 25) → ((l.filter fun w => lvB I w.x0 w.y0 w.x1 w.y1).flatMap fun w => told1 (nxt fs) (lfF M (toE w))) = l.flatMap fun w => (wayL I w).map (lfF M) := fun l hl => by
    induction l with
    | nil => rfl
    | cons w l ih =>
      have ih := ih fun v hv => hl v (List.mem_cons_of_mem _ hv)
      rw [List.filter_cons, List.flatMap_cons]
      cases hv : lvB I w.x0 w.y0 w.x1 w.y1 with
      | false =>
        have e : wayL I w = [] := by unfold wayL; rw [if_neg (by rw [hv]; simp)]
        rw [e, List.map_nil, List.nil_append, if_neg (by decide)]
        exact ih
      | true =>
        rw [if_pos rfl, List.flatMap_cons, ih]
        congr 1
        have hw := hl w (List.mem_cons_self ..)
        have gr := (lv_in hI (idx_dirs hw).1 hv).1
        have z := (fol_way hI hM pf hw hv).1
        have ns := nxt_start hI hM pf gr
        unfold told1 wayL
        rw [lfE]
        simp only
        rw [ns, z]
        cases s : smB I w.x0 w.y0 with
        | true => simp
        | false =>
          rw [if_pos (by decide), if_pos ⟨rfl, hv⟩]
          rfl
  exact this _ fun w hw => hw
theorem fs_ok : FsOk fs := fun f hf => by
  obtain ⟨w, hw, e⟩ := List.mem_map.mp (pf.mem_iff.mp hf)
  obtain ⟨h1, h2⟩ := List.mem_filter.mp hw
  have gr := lv_in hI (idx_dirs h1).1 h2
  have ok : ∀ x y : Int, 0 ≤ x ∧ x ≤ 4 ∧ 0 ≤ y ∧ y ≤ 4 → PtOk (phi M x y) := fun x y h => ⟨(sc_loQ (spQ M x y 1)).wpos (by show 0 < M.m * 1; have := hM.mp; omega), lo_lt hM (by omega) (by omega) (by decide)⟩
  rw [← e, lfE]
  exact ⟨ok _ _ gr.1, ok _ _ gr.2⟩
end
theorem fl_lt {a b c d G : Int} (hb : 0 < b) (hd : 0 < d) (h : a * d < c * b) (hG : b * d ≤ G) : a * G / b < c * G / d := by
  have g0 : 0 ≤ G := Int.le_trans (Int.le_of_lt (Int.mul_pos hb hd)) hG
  have h0 : a * G / b * b ≤ a * G := Int.ediv_mul_le _ (by omega)
  have h1 := Int.mul_le_mul_of_nonneg_right h0 (Int.le_of_lt hd)
  have h2 : G * (a * d + 1) ≤ G * (c * b) := Int.mul_le_mul_of_nonneg_left (by omega) g0
  refine Int.lt_of_lt_of_le (Int.lt_succ _) (Int.le_ediv_of_mul_le hd (Int.le_of_mul_le_mul_right ?_ hb))
  generalize a * G / b = A at *
  calc (A + 1) * d * b = A * b * d + b * d := by grind
    _ ≤ a * G * d + G := Int.add_le_add h1 hG
    _ = G * (a * d + 1) := by grind
    _ ≤ G * (c * b) := h2
    _ = c * G * b := by grind
theorem fl_eq {a b c d G : Int} (hb : 0 < b) (hd : 0 < d) (h : a * d = c * b) : a * G / b = c * G / d := by
  have e1 : a * G / b = (a * G * d) / (b * d) := (Int.mul_ediv_mul_of_pos_left (a * G) b hd).symm
  have e2 : c * G / d = (c * G * b) / (d * b) := (Int.mul_ediv_mul_of_pos_left (c * G) d hb).symm
  rw [e1, e2, Int.mul_comm d b]
  congr 1
  have : a * G * d = G * (a * d) := by grind
  rw [this, h]
  grind
theorem sc_cmp {m k l p q px pw qx qw : Int} (hm : 0 < m) (hpw : 0 < pw) (hqw : 0 < qw) (e1 : p = k * px) (e2 : m = k * pw) (e3 : q = l * qx) (e4 : m = l * qw) : (p < q ↔ px * qw < qx * pw) ∧ (p = q ↔ px * qw = qx * pw) := by
  have a1 : p * (pw * qw) = m * (px * qw) := by rw [e1, show m * (px * qw) = k * pw * (px * qw) by rw [← e2]]; grind
  have a2 : q * (pw * qw) = m * (qx * pw) := by rw [e3, show m * (qx * pw) = l * qw * (qx * pw) by rw [← e4]]; grind
  have c1 := cmp_scale (K := pw * qw) (a := p) (b := q) (A := p * (pw * qw)) (B := q * (pw * qw)) (Int.mul_pos hpw hqw) (Int.mul_comm _ _) (Int.mul_comm _ _)
  have c2 := cmp_scale (K := m) (a := px * qw) (b := qx * pw) (A := p * (pw * qw)) (B := q * (pw * qw)) hm a1 a2
  exact ⟨c1.1.symm.trans c2.1, c1.2.symm.trans c2.2⟩
theorem ky_cmp {M : M7} (hM : MOk M) {g : Int} {x y x' y' : Int} (h1 : (phi M x y).w ≤ g) (h2 : (phi M x' y').w ≤ g) :
    (((spQ M x y 1).x < (spQ M x' y' 1).x → (kyQ g (phi M x y)).1 < (kyQ g (phi M x' y')).1) ∧ ((spQ M x y 1).x = (spQ M x' y' 1).x → (kyQ g (phi M x y)).1 = (kyQ g (phi M x' y')).1)) ∧
    (((spQ M x y 1).y < (spQ M x' y' 1).y → (kyQ g (phi M x y)).2 < (kyQ g (phi M x' y')).2) ∧ ((spQ M x y 1).y = (spQ M x' y' 1).y → (kyQ g (phi M x y)).2 = (kyQ g (phi M x' y')).2)) := by
  have mp : 0 < (spQ M x y 1).w := by show 0 < M.m * 1; have := hM.mp; omega
  have w1 := (sc_loQ (spQ M x y 1)).wpos mp
  have w2 := (sc_loQ (spQ M x' y' 1)).wpos (by show 0 < M.m * 1; have := hM.mp; omega)
  obtain ⟨k, hk, k1, k2, k3⟩ := sc_loQ (spQ M x y 1)
  obtain ⟨l, hl, l1, l2, l3⟩ := sc_loQ (spQ M x' y' 1)
  have e : (spQ M x y 1).w = (spQ M x' y' 1).w := rfl
  have hG : (phi M x y).w * (phi M x' y').w ≤ g * g := Int.mul_le_mul h1 h2 (Int.le_of_lt w2) (Int.le_trans (Int.le_of_lt w1) h1)
  have cx := sc_cmp mp w1 w2 k1 k3 l1 (e.trans l3)
  have cy := sc_cmp mp w1 w2 k2 k3 l2 (e.trans l3)
  exact ⟨⟨fun z => fl_lt w1 w2 (cx.1.mp z) hG, fun z => fl_eq w1 w2 (cx.2.mp z)⟩, fun z => fl_lt w1 w2 (cy.1.mp z) hG, fun z => fl_eq w1 w2 (cy.2.mp z)⟩
theorem ky_lt2 {M : M7} (hM : MOk M) {g : Int} {x y x' y' : Int} (h1 : (phi M x y).w ≤ g) (h2 : (phi M x' y').w ≤ g) : lt2 (kyQ g (phi M x y)) (kyQ g (phi M x' y')) = lt3 (t3Q (spQ M x y 1)) (t3Q (spQ M x' y' 1)) ∧ (kyQ g (phi M x y) = kyQ g (phi M x' y') ↔ t3Q (spQ M x y 1) = t3Q (spQ M x' y' 1)) := by
  obtain ⟨⟨a1, a2⟩, a3, a4⟩ := ky_cmp hM h1 h2
  obtain ⟨⟨b1, b2⟩, b3, b4⟩ := ky_cmp hM h2 h1
  have ew : (spQ M x y 1).w = (spQ M x' y' 1).w := rfl
  generalize kyQ g (phi M x y) = P at *
  generalize kyQ g (phi M x' y') = Q at *
  generalize spQ M x y 1 = p at *
  generalize spQ M x' y' 1 = q at *
  obtain ⟨px, py⟩ := P
  obtain ⟨qx, qy⟩ := Q
  obtain ⟨x, y, w⟩ := p
  obtain ⟨x', y', w'⟩ := q
  simp only at *
  subst ew
  unfold lt2 lt3 lt2 t3Q lexB
  simp only [Prod.mk.injEq]
  rcases Int.lt_trichotomy x x' with h | h | h
  · have := a1 h
    rw [if_neg (by omega), if_neg (by omega), decide_eq_true this, decide_eq_true h]
    exact ⟨rfl, by omega⟩
  · have e := a2 h
    rw [if_pos e, if_pos h]
    rcases Int.lt_trichotomy y y' with k | k | k
    · have := a3 k
      rw [decide_eq_true this]
      rw [if_neg (by omega), decide_eq_true k]
      exact ⟨rfl, by omega⟩
    · have := a4 k
      rw [if_pos k, decide_eq_false (show ¬ py < qy by omega), decide_eq_false (show ¬ w < w by omega)]
      exact ⟨rfl, fun _ => ⟨h, k, trivial⟩, fun _ => ⟨e, this⟩⟩
    · have := b3 k
      rw [decide_eq_false (show ¬ py < qy by omega)]
      rw [if_neg (by omega), decide_eq_false (show ¬ y < y' by omega)]
      exact ⟨rfl, by omega⟩
  · have := b1 h
    rw [if_neg (by omega), if_neg (by omega), decide_eq_false (show ¬ px < qx by omega), decide_eq_false (show ¬ x < x' by omega)]
    exact ⟨rfl, by omega⟩
theorem ky_lt22 {M : M7} (hM : MOk M) {g : Int} {w w' : W4} (h1 : (lfF M w).1.w ≤ g ∧ (lfF M w).2.w ≤ g) (h2 : (lfF M w').1.w ≤ g ∧ (lfF M w').2.w ≤ g) : lt22 (kyF g (lfF M w)) (kyF g (lfF M w')) = lt33 (spF M w) (spF M w') ∧ (kyF g (lfF M w) = kyF g (lfF M w') → w = w') := by
  obtain ⟨a1, a2⟩ := ky_lt2 hM h1.1 h2.1
  obtain ⟨b1, b2⟩ := ky_lt2 hM h1.2 h2.2
  refine ⟨?_, fun e => ?_⟩
  · show (if kyQ g (phi M w.x0 w.y0) = kyQ g (phi M w'.x0 w'.y0) then lt2 (kyQ g (phi M w.x1 w.y1)) (kyQ g (phi M w'.x1 w'.y1)) else lt2 (kyQ g (phi M w.x0 w.y0)) (kyQ g (phi M w'.x0 w'.y0))) = if t3Q (spQ M w.x0 w.y0 1) = t3Q (spQ M w'.x0 w'.y0 1) then lt3 (t3Q (spQ M w.x1 w.y1 1)) (t3Q (spQ M w'.x1 w'.y1 1)) else lt3 (t3Q (spQ M w.x0 w.y0 1)) (t3Q (spQ M w'.x0 w'.y0 1))
    rw [a1, b1]
    by_cases c : t3Q (spQ M w.x0 w.y0 1) = t3Q (spQ M w'.x0 w'.y0 1)
    · rw [if_pos c, if_pos (a2.mpr c)]
    · rw [if_neg c, if_neg fun z => c (a2.mp z)]
  · refine spF_inj hM ?_
    have e1 := congrArg Prod.fst e
    have e2 := congrArg Prod.snd e
    exact Prod.ext (a2.mp e1) (b2.mp e2)
theorem same_sorted2 {α : Type} {lt : α → α → Bool} (irr : ∀ a, lt a a = false) (tr : ∀ a b c, lt a b = true → lt b c = true → lt a c = true) : ∀ {l r : List α}, l.Perm r → l.Pairwise (fun a b => lt a b = true) → r.Pairwise (fun a b => lt a b = true) → l = r
  | [], r, h, _, _ => (List.nil_perm.mp h).symm
  | a :: l, [], h, _, _ => absurd h.length_eq (by simp)
  | a :: l, b :: r, h, h1, h2 => by
    obtain ⟨a1, a2⟩ := List.pairwise_cons.mp h1
    obtain ⟨b1, b2⟩ := List.pairwise_cons.mp h2
    have e : a = b := by
      rcases List.mem_cons.mp (h.mem_iff.mp (List.mem_cons_self (a := a) (l := l))) with e | ha
      · exact e
      · rcases List.mem_cons.mp (h.mem_iff.mpr (List.mem_cons_self (a := b) (l := r))) with e | hb
        · exact e.symm
        · have := tr _ _ _ (a1 b hb) (b1 a ha)
          rw [irr] at this
          cases this
    subst e
    rw [same_sorted2 irr tr ((List.perm_cons a).mp h) a2 b2]
section
variable {I : Int → Int → Bool} (hI : Dom I) {M : M7} (hM : MOk M) {fs : List Fc} (pf : fs.Perm ((EI I).map fun w => lfF M (toE w)))
include hI hM pf
theorem k_inj : KInj (toldL fs) := fun g gp gm => by
  have tp := told_perm hI hM pf
  refine (tp.map (kyF g)).nodup_iff.mpr ?_
  rw [List.map_map]
  have gw : ∀ w, w ∈ waysOf I → (lfF M w).1.w ≤ g ∧ (lfF M w).2.w ≤ g := fun w hw => gm _ (tp.mem_iff.mpr (List.mem_map.mpr ⟨w, hw, rfl⟩))
  exact nodup_map (ways_nd I) fun a b ha hb e => (ky_lt22 hM (gw a ha) (gw b hb)).2 e
theorem found_is {fs' : List Fc} {ws : List W4} {g : Int} (pm : fs'.Perm (toldL fs)) (gm : ∀ f, f ∈ toldL fs → f.1.w ≤ g ∧ f.2.w ≤ g) (pw : fs'.Pairwise fun a b => lt22 (kyF g a) (kyF g b) = true) (pws : ws.Perm (waysOf I)) (pww : ws.Pairwise fun a b => lt33 (spF M a) (spF M b) = true) : fs' = ws.map (lfF M) := by
  have tp := told_perm hI hM pf
  have gw : ∀ w, w ∈ waysOf I → (lfF M w).1.w ≤ g ∧ (lfF M w).2.w ≤ g := fun w hw => gm _ (tp.mem_iff.mpr (List.mem_map.mpr ⟨w, hw, rfl⟩))
  refine same_sorted2 (lt := fun a b => lt22 (kyF g a) (kyF g b)) (fun a => sto22.irr _) (fun a b c => sto22.tr _ _ _) (pm.trans (tp.trans (pws.symm.map _))) pw ?_
  refine List.pairwise_map.mpr ?_
  refine List.Pairwise.imp_of_mem (fun {a b} ha hb h => ?_) pww
  rw [(ky_lt22 hM (gw a (pws.mem_iff.mp ha)) (gw b (pws.mem_iff.mp hb))).1]
  exact h
end
def SameL (H H' : Hp) : Prop := ∀ b o, (∀ ps, o ≠ .tbl ps) → H b = some o → H' b = some o
theorem SameL.of {H H' : Hp} (g : Same H H') : SameL H H' := fun b o _ h => g b o h
theorem SameL.t {tb : Addr} {lp : Pos} {ql : Str} {H H' : Hp} (g : SameT tb H H') (lt : LamTab H tb lp ql) : SameL H H' := fun b o n h => g b o (lt.ne h n) h
theorem SameL.trans {H H1 H2 : Hp} (a : SameL H H1) (b : SameL H1 H2) : SameL H H2 := fun c o n h => b c o n (a c o n h)
theorem SameL.tup {H H' : Hp} (g : SameL H H') {b : Addr} {xs : List V} (h : H b = some (.tup xs)) : H' b = some (.tup xs) := g b _ (fun _ z => nomatch z) h
theorem SameL.lst {H H' : Hp} (g : SameL H H') {b : Addr} {xs : List V} (h : H b = some (.lst xs)) : H' b = some (.lst xs) := g b _ (fun _ z => nomatch z) h
theorem SameL.ts {H H' : Hp} (g : SameL H H') : TupSame H H' := fun b xs h => g.tup h
theorem SameL.seq {K : PySem.W.Frag} {H H' : Hp} (g : SameL H H') {a : Addr} {xs : List V} (h : SqL K H a xs) : SqL K H' a xs := by
  rcases h with (h | ⟨o, h⟩) | h
  · exact .inl (.inl (g _ _ (fun _ z => nomatch z) h))
  · exact .inl (.inr ⟨o, g _ _ (fun _ z => nomatch z) h⟩)
  · exact .inr h
theorem BL.sl {H H' : Hp} {l : Addr} {bs : List Bool} (h : BL H l bs) (g : SameL H H') : BL H' l bs := ⟨g.lst h.1, h.2⟩
theorem MpH.sl {H H' : Hp} {p : Addr} {M : M7} (h : MpH H p M) (g : SameL H H') : MpH H' p M := ⟨g.tup h.1, h.2⟩
theorem SameL.put {H H' : Hp} {D : Addr} {ys : List V} (g : SameL H H') (hn : H D = none) : SameL H (upd H' D (.lst ys)) := fun b o n h => by
  rw [upd_ne (fun z => by rw [z, hn] at h; cases h)]
  exact g b o n h
theorem lamTab_put {H : Hp} {P F : Addr} {pos : Pos} {q : Str} {zs : List V} {o : HO} (h : LamTab H P pos q) (hF : H F = some (.lst zs)) : LamTab (upd H F o) P pos q := by
  obtain ⟨ps, e, t, z⟩ := h
  refine ⟨ps, by rw [upd_ne (fun z => by rw [← z, e] at hF; cases hF)]; exact e, t, ?_⟩
  rcases z with z | ⟨c, z, y⟩
  · exact .inl z
  · exact .inr ⟨c, z, by rw [upd_ne (fun z => by rw [← z, y] at hF; cases hF)]; exact y⟩
theorem sp_fen_of {tb : Addr} {lp : Pos} {ql : Str} {H : Hp} {L : Addr} {ys : List V} {rs : List Rw} {bs : List Bool} {M : M7} {Q : VK} {E : XK} (hL : H L = some (.lst ys)) (hr : LR RoH H ys (rs.map lowR)) (pr : rs.Perm ((brds 50).map (rowOf (inB bs) M))) (hM : MOk M) (lt : LamTab H tb lp ql)
    (k : ∀ D zs H', H D = none → SameL H H' → LamTab H' tb lp ql → H' D = some (.lst zs) → (∀ ws : List W4, ws.Perm (waysOf (inB bs)) → (ws.Pairwise fun a b => lt33 (spF M a) (spF M b) = true) → LR FeQ H' zs (ws.map (lfF M))) → Q (.ref D) H') : sp_fen tb lp ql [.ref L] H Q E := by
  have pf := fs_perm (inB_in bs) pr
  have lb := brds_len 50
  refine ⟨L, ys, rs.map lowR, rfl, hL, by rw [hr.1, List.length_map, pr.length_eq, List.length_map]; omega, hr, fs_ok (inB_in bs) hM pf, fs_stops (inB_in bs) hM pf, k_inj (inB_in bs) hM pf, lt, fun D zs fs' g H' hD st lt' hD' hz pm gp gm pw => ?_⟩
  refine k D zs H' hD (.t st lt) lt' hD' fun ws pws pww => ?_
  rw [← found_is (inB_in bs) hM pf pm gm pw pws pww]
  exact hz
theorem sp_fen_nil {tb : Addr} {lp : Pos} {ql : Str} {H : Hp} {L : Addr} {Q : VK} {E : XK} (hL : H L = some (.lst [])) (lt : LamTab H tb lp ql) (k : ∀ D H', H D = none → SameL H H' → LamTab H' tb lp ql → H' D = some (.lst []) → Q (.ref D) H') : sp_fen tb lp ql [.ref L] H Q E := by
  refine ⟨L, [], [], rfl, hL, by decide, .nil, fun f hf => (by cases hf), fun f hf => (by cases hf), fun g _ _ => List.Pairwise.nil, lt, fun D zs fs' g H' hD st lt' hD' hz pm gp gm pw => ?_⟩
  have e : fs' = [] := List.perm_nil.mp pm
  subst e
  have ez : zs = [] := List.eq_nil_of_length_eq_zero hz.1
  subst ez
  exact k D H' hD (.t st lt) lt' hD'
theorem al_fe {H : Hp} {p q : Addr} {f : Fc} {k : Nat} (h1 : FeQ H p f) (h2 : FeQ H q f) : Al (k + 3) H (.ref p) (.ref q) := by
  obtain ⟨a, b, hp, ha, hb⟩ := h1
  obtain ⟨a', b', hq, ha', hb'⟩ := h2
  have pt : ∀ {a b : Addr} {r : Q3}, QH H a r → QH H b r → Al (k + 2) H (.ref a) (.ref b) := fun {a b r} h1 h2 => by
    refine .inr ⟨a, b, _, _, rfl, rfl, .inl ⟨h1, h2⟩, rfl, by show 3 ≤ 1000; decide, fun j u v z1 z2 => ?_⟩
    rw [z1] at z2
    cases z2
    match j, z1 with
    | 0, z => cases z; exact .inl ⟨_, rfl, rfl⟩
    | 1, z => cases z; exact .inl ⟨_, rfl, rfl⟩
    | 2, z => cases z; exact .inl ⟨_, rfl, rfl⟩
  refine .inr ⟨p, q, _, _, rfl, rfl, .inl ⟨hp, hq⟩, rfl, by show 2 ≤ 1000; decide, fun j u v z1 z2 => ?_⟩
  match j, z1, z2 with
  | 0, z1, z2 => cases z1; cases z2; exact pt ha ha'
  | 1, z1, z2 => cases z1; cases z2; exact pt hb hb'
theorem al_fel {H : Hp} {p q : Addr} {ys zs : List V} {fs : List Fc} (hp : H p = some (.lst ys)) (hq : H q = some (.lst zs)) (h1 : LR FeQ H ys fs) (h2 : LR FeQ H zs fs) (hz : zs.length ≤ 400) : Al 4 H (.ref p) (.ref q) := by
  refine .inr ⟨p, q, _, _, rfl, rfl, .inr ⟨hp, hq⟩, h1.1.trans h2.1.symm, by omega, fun j u v z1 z2 => ?_⟩
  obtain ⟨a, d, rfl, e, s⟩ := h1.2 j u z1
  obtain ⟨b, d', rfl, e', s'⟩ := h2.2 j v z2
  rw [e] at e'
  cases e'
  exact al_fe s s'
theorem al_nil {H : Hp} {p q : Addr} (hp : H p = some (.lst [])) (hq : H q = some (.lst [])) : Al 4 H (.ref p) (.ref q) := .inr ⟨p, q, _, _, rfl, rfl, .inr ⟨hp, hq⟩, rfl, by show 0 ≤ 1000; decide, fun j u v z1 z2 => by cases z1⟩
def dFe (f : Fc) : PyData := .tuple [dPt f.1.x f.1.y f.1.w, dPt f.2.x f.2.y f.2.w]
def dRo (w : Rw) : PyData := .tuple [dFe w.f, .bool w.l, .bool w.r]
theorem rd_fe {K : PySem.W.Frag} {H : Hp} {p : Addr} {f : Fc} (h : FeQ H p f) : RdD K H (dFe f) (.ref p) := by
  obtain ⟨a, b, hp, ha, hb⟩ := h
  unfold dFe
  rw [RdD]
  refine ⟨p, _, rfl, .of hp, ?_⟩
  rw [RdDs]
  refine ⟨_, _, rfl, rd_pt (.of ha), ?_⟩
  rw [RdDs]
  refine ⟨_, _, rfl, rd_pt (.of hb), ?_⟩
  rw [RdDs]
theorem rd_ro {K : PySem.W.Frag} {H : Hp} {p : Addr} {w : Rw} (h : RoH H p w) : RdD K H (dRo w) (.ref p) := by
  obtain ⟨s, hp, hs⟩ := h
  unfold dRo
  rw [RdD]
  refine ⟨p, _, rfl, .of hp, ?_⟩
  rw [RdDs]
  refine ⟨_, _, rfl, rd_fe hs, ?_⟩
  rw [RdDs]
  refine ⟨_, _, rfl, rd_bl, ?_⟩
  rw [RdDs]
  refine ⟨_, _, rfl, rd_bl, ?_⟩
  rw [RdDs]
theorem rds_LR {K : PySem.W.Frag} {α : Type} {R : Hp → Addr → α → Prop} {dA : α → PyData} (rd : ∀ (H : Hp) (p : Addr) (a : α), R H p a → RdD K H (dA a) (.ref p)) {H : Hp} {more : List PyData} {us : List V} (hm : RdDs K H more us) : ∀ (ys : List V) (as : List α), LR R H ys as → RdDs K H (as.map dA ++ more) (ys ++ us)
  | [], [], _ => hm
  | [], a :: as, h => by cases h.1
  | v :: ys, [], h => by cases h.1
  | v :: ys, a :: as, h => by
    obtain ⟨p, a', e, f, s⟩ := h.2 0 v rfl
    cases f
    subst e
    rw [List.map_cons, List.cons_append, List.cons_append, RdDs]
    exact ⟨_, _, rfl, rd _ _ _ s, rds_LR rd hm ys as ⟨Nat.succ.inj h.1, fun j v z => h.2 (j + 1) v z⟩⟩
theorem d_all {α : Type} {dA : α → PyData} (h : ∀ a, PyData.canLay0 (dA a) = true ∧ PyData.depth (dA a) ≤ 6 ∧ PyData.eqv (dA a) (dA a) = true) {more : List PyData} (hm : PyData.canLayAll0 more = true ∧ PyData.depthAll more ≤ 6 ∧ PyData.eqvAll more more = true) (as : List α) : PyData.canLayAll0 (as.map dA ++ more) = true ∧ PyData.depthAll (as.map dA ++ more) ≤ 6 ∧ PyData.eqvAll (as.map dA ++ more) (as.map dA ++ more) = true := by
  induction as with
  | nil => exact hm
  | cons a as ih =>
    obtain ⟨h1, h2, h3⟩ := ih
    obtain ⟨k1, k2, k3⟩ := h a
    refine ⟨?_, ?_, ?_⟩
    · rw [List.map_cons, List.cons_append, PyData.canLayAll0, k1, h1]; rfl
    · rw [List.map_cons, List.cons_append, PyData.depthAll]; omega
    · rw [List.map_cons, List.cons_append, PyData.eqvAll, k3, h3]; rfl
theorem l_shaped {ds : List PyData} (h : PyData.canLayAll0 ds = true ∧ PyData.depthAll ds ≤ 6 ∧ PyData.eqvAll ds ds = true) : SeqAt.shaped (.list ds) = true ∧ PyData.eqv (.list ds) (.list ds) = true := by
  obtain ⟨h1, h2, h3⟩ := h
  refine ⟨?_, by rw [PyData.eqv]; exact h3⟩
  unfold SeqAt.shaped
  rw [PyData.canLay0, h1, Bool.true_and, PyData.depth]
  exact decide_eq_true (by omega)
theorem dFe_ok (f : Fc) : PyData.canLay0 (dFe f) = true ∧ PyData.depth (dFe f) ≤ 6 ∧ PyData.eqv (dFe f) (dFe f) = true := ⟨by simp [dFe, dPt, PyData.canLay0, PyData.canLayAll0], by simp only [dFe, dPt, PyData.depth, PyData.depthAll]; omega, by simp [dFe, dPt, PyData.eqv, PyData.eqvAll]⟩
theorem dRo_ok (w : Rw) : PyData.canLay0 (dRo w) = true ∧ PyData.depth (dRo w) ≤ 6 ∧ PyData.eqv (dRo w) (dRo w) = true := ⟨by simp [dRo, dFe, dPt, PyData.canLay0, PyData.canLayAll0], by simp only [dRo, dFe, dPt, PyData.depth, PyData.depthAll]; omega, by simp [dRo, dFe, dPt, PyData.eqv, PyData.eqvAll]⟩
theorem d0_ok : PyData.canLayAll0 [] = true ∧ PyData.depthAll [] ≤ 6 ∧ PyData.eqvAll [] [] = true := by simp [PyData.canLayAll0, PyData.depthAll, PyData.eqvAll]
theorem d1_ok : PyData.canLayAll0 [.int 1] = true ∧ PyData.depthAll [.int 1] ≤ 6 ∧ PyData.eqvAll [.int 1] [.int 1] = true := by simp [PyData.canLayAll0, PyData.depthAll, PyData.eqvAll, PyData.canLay0, PyData.depth, PyData.eqv]
theorem rd_rows {K : PySem.W.Frag} {H : Hp} {l : Addr} {ys : List V} {ws : List Rw} (hl : H l = some (.lst ys)) (h : LR RoH H ys ws) : RdD K H (.list (ws.map dRo)) (.ref l) := by
  have z := rds_LR (K := K) (dA := dRo) (fun _ _ _ h => rd_ro h) (more := []) (us := []) (by rw [RdDs]) ys ws h
  rw [List.append_nil, List.append_nil] at z
  rw [RdD]
  exact ⟨l, ys, rfl, .of hl, z⟩
theorem rd_fes {K : PySem.W.Frag} {H : Hp} {l : Addr} {ys : List V} {fs : List Fc} (hl : H l = some (.lst (ys ++ [.int 1]))) (h : LR FeQ H ys fs) : RdD K H (.list (fs.map dFe ++ [.int 1])) (.ref l) := by
  have z := rds_LR (K := K) (dA := dFe) (fun _ _ _ h => rd_fe h) (more := [.int 1]) (us := [.int 1]) (by rw [RdDs]; exact ⟨_, _, rfl, by rw [RdD], by rw [RdDs]⟩) ys fs h
  rw [RdD]
  exact ⟨l, _, rfl, .of hl, z⟩
theorem rows_sh (ws : List Rw) : SeqAt.shaped (.list (ws.map dRo)) = true ∧ PyData.eqv (.list (ws.map dRo)) (.list (ws.map dRo)) = true := by
  have z := l_shaped (d_all dRo_ok d0_ok ws)
  rw [List.append_nil] at z
  exact z
theorem fes_sh (fs : List Fc) : SeqAt.shaped (.list (fs.map dFe ++ [.int 1])) = true ∧ PyData.eqv (.list (fs.map dFe ++ [.int 1])) (.list (fs.map dFe ++ [.int 1])) = true := l_shaped (d_all dFe_ok d1_ok fs)
def sp_lawT (K : PySem.W.Frag) (ts : List Addr) : Sp := fun vs H Q _ => ∃ (a : Addr) (ns : List Int), vs = [.ref a] ∧ SqL K H a (ns.map V.int) ∧ ns.length ≤ 63 ∧ (∀ b, b ∈ ts → LamTab H b lposB qlB) ∧ ∀ H', Q (.bl true) H'
theorem lamTab_new {H : Hp} {b : Addr} {pos : Pos} {q : Str} (h : H b = some (.tbl #[])) : LamTab H b pos q := ⟨#[], h, by trivial, .inl rfl⟩
theorem ok_law (T : Txt K mg ad fd) (hK : K.In base) (hB : base.BuiltinsAt mg (ad 25)) : FnOk P w K mg base CX0 7 (ad 23) (fd 23) ["_law_script"] (sp_lawT K [ad 25]) := by
  refine T.law.fn.ok sc_law (fun vs H Q E h => ?_) (fun cdv A outer s H vs Q E hr h => ?_)
  · obtain ⟨a, ns, rfl, _⟩ := h
    rfl
  obtain ⟨a0, ns, rfl, hS, hlen, lts, k⟩ := h
  have lt := lts _ (List.mem_singleton.mpr rfl)
  clear lts
  have qpss13 := @pss13
  have qps_set := @ps_set
  have qpe_call := @pe_call
  have qpa1 := @pa1
  have qpe_op := @pe_op
  have qpa2 := @pa2
  have qpv := @pv
  have qpe_int := @pe_int
  have qpe_callTy := @pe_callTy
  have qps_if := @ps_if
  have qPWpt := @PW.pt
  have qpw_or := @pw_or
  have qpt_not := @pt_not
  have qpt_val := @pt_val
  have qpw_or1 := @pw_or1
  have qpt_cmpR := @pt_cmpR
  have qpss_one := @pss_one
  have qps_ret := @ps_ret
  have qpe_bl := @pe_bl
  have qpss_nil := @pss_nil
  have qps_expr := @ps_expr
  have qpe_bm := @pe_bm
  have qpe_lst := @pe_lst
  have qpa_nil := @pa_nil
  have qpe_bm0 := @pe_bm0
  have qpe_and := @pe_and
  have qpe_one := @pe_one
  generalize @L2.PE = QE, @L2.PT = QT, @L2.PW = QW, @L2.PA = QA, @L2.PS = QS, @L2.PSs = QSs, @L2.PG = QG, @L2.PGs = QGs, @L2.PI = QI, @L2.PO = QO, @L2.PIf = QIf at qpss13 qps_set qpe_call qpa1 qpe_op qpa2 qpv qpe_int qpe_callTy qps_if qPWpt qpw_or qpt_not qpt_val qpw_or1 qpt_cmpR qpss_one qps_ret qpe_bl qpss_nil qps_expr qpe_bm qpe_lst qpa_nil qpe_bm0 qpe_and qpe_one ⊢
  refine ⟨_,
    (qpss13
      (qps_set (i := 1) sc_law.nd rfl (Or.inl rfl) (qpe_call (ok_law_held T) (hr.mono (by decide)) rfl T.law_held.mg T.law_held.fn.kp T.law_held.bn .nil pass0 (qpa1 (qpe_op op_mod (qpe_call (ok_law_cell_at T) (hr.mono (by decide)) rfl T.law_cell_at.mg T.law_cell_at.fn.kp T.law_cell_at.bn .nil pass0 (qpa2 (qpv 0) ns_Name qpe_int ns_Constant)) qpe_int) ns_BinOp)))
      (qps_set (i := 2) sc_law.nd rfl (Or.inl rfl) (qpe_call (ok_law_map T) (hr.mono (by decide)) rfl T.law_map.mg T.law_map.fn.kp T.law_map.bn .nil pass0 (qpa1 (qpe_call (ok_law_cell_at T) (hr.mono (by decide)) rfl T.law_cell_at.mg T.law_cell_at.fn.kp T.law_cell_at.bn .nil pass0 (qpa2 (qpv 0) ns_Name qpe_int ns_Constant)) ns_Call)))
      (qps_set (i := 3) sc_law.nd rfl (Or.inl rfl) (qpe_call (ok_law_rows T) (hr.mono (by decide)) rfl T.law_rows.mg T.law_rows.fn.kp T.law_rows.bn .nil pass0 (qpa2 (qpv 1) ns_Name (qpv 2) ns_Name)))
      (qps_set (i := 4) sc_law.nd rfl (Or.inl rfl) (qpe_callTy call_listH rfl T.b_list bt_list (qpa1 (qpv 3) ns_Name)))
      (qps_set (i := 5) sc_law.nd rfl (Or.inl rfl) (qpe_call (ok_fences_of T hK hB) (hr.mono (by decide)) rfl T.fences_of.mg T.fences_of.fn.kp T.fences_of.bn .nil pass0 (qpa1 (qpv 4) ns_Name)))
      (qps_set (i := 6) sc_law.nd rfl (Or.inl rfl) (qpe_call (ok_law_land T) (hr.mono (by decide)) rfl T.law_land.mg T.law_land.fn.kp T.law_land.bn .nil pass0 (qpa2 (qpv 1) ns_Name (qpv 2) ns_Name)))
      (qps_if (qPWpt (qpw_or (qpt_not (qpt_val (qpe_call (ok_law_alike T) (hr.mono (by decide)) rfl T.law_alike.mg T.law_alike.fn.kp T.law_alike.bn .nil pass0 (qpa2 (qpv 5) ns_Name (qpv 6) ns_Name)))) (qpw_or1 (qpt_cmpR (op_neD (hu64 hr)) (qpv 4) (qpv 3) (nomark _))))) (qpss_one (qps_ret qpe_bl)) qpss_nil)
      (qps_expr (qpe_bm PySem.F.plainAttrs_list PySem.F.slot_list_append PySem.F.type_list_append mt_append (qpv 5) (qpa1 qpe_int ns_Constant)))
      (qps_set (i := 7) sc_law.nd rfl (Or.inl rfl) (qpe_call (ok_law_held T) (hr.mono (by decide)) rfl T.law_held.mg T.law_held.fn.kp T.law_held.bn .nil pass0 (qpa1 (qpe_op op_mod (qpe_call (ok_law_cell_at T) (hr.mono (by decide)) rfl T.law_cell_at.mg T.law_cell_at.fn.kp T.law_cell_at.bn .nil pass0 (qpa2 (qpv 0) ns_Name qpe_int ns_Constant)) qpe_int) ns_BinOp)))
      (qps_if (qpt_not (qpt_val (qpe_call (ok_law_alike T) (hr.mono (by decide)) rfl T.law_alike.mg T.law_alike.fn.kp T.law_alike.bn .nil pass0 (qpa2 (qpe_call (ok_fences_of T hK hB) (hr.mono (by decide)) rfl T.fences_of.mg T.fences_of.fn.kp T.fences_of.bn .nil pass0 (qpa1 (qpe_call (ok_law_rows T) (hr.mono (by decide)) rfl T.law_rows.mg T.law_rows.fn.kp T.law_rows.bn .nil pass0 (qpa2 (qpv 7) ns_Name (qpv 2) ns_Name)) ns_Call)) ns_Call (qpe_call (ok_law_land T) (hr.mono (by decide)) rfl T.law_land.mg T.law_land.fn.kp T.law_land.bn .nil pass0 (qpa2 (qpv 7) ns_Name (qpv 2) ns_Name)) ns_Call)))) (qpss_one (qps_ret qpe_bl)) qpss_nil)
      (qps_if (qPWpt (qpw_or (qpt_not (qpt_val (qpe_call (ok_law_alike T) (hr.mono (by decide)) rfl T.law_alike.mg T.law_alike.fn.kp T.law_alike.bn .nil pass0 (qpa2 (qpe_call (ok_fences_of T hK hB) (hr.mono (by decide)) rfl T.fences_of.mg T.fences_of.fn.kp T.fences_of.bn .nil pass0 (qpa1 (qpv 3) ns_Name)) ns_Call (qpv 6) ns_Name)))) (qpw_or (qpt_not (qpt_val (qpe_call (ok_law_alike T) (hr.mono (by decide)) rfl T.law_alike.mg T.law_alike.fn.kp T.law_alike.bn .nil pass0 (qpa2 (qpe_call (ok_fences_of T hK hB) (hr.mono (by decide)) rfl T.fences_of.mg T.fences_of.fn.kp T.fences_of.bn .nil pass0 (qpa1 (qpe_lst qpa_nil) ns_List)) ns_Call (qpe_lst qpa_nil) ns_List)))) (qpw_or1 (qpt_cmpR (op_neD (hu64 hr)) (qpv 5) (qpe_op op_cat (qpv 6) (qpe_lst (qpa1 qpe_int ns_Constant))) (nomark _)))))) (qpss_one (qps_ret qpe_bl)) qpss_nil)
      (qps_expr (qpe_bm0 PySem.F.plainAttrs_list PySem.F.slot_list_clear PySem.F.type_list_clear mt_clear (qpv 4)))
      (qps_ret (qpe_and (qpe_call (ok_law_alike T) (hr.mono (by decide)) rfl T.law_alike.mg T.law_alike.fn.kp T.law_alike.bn .nil pass0 (qpa2 (qpe_call (ok_fences_of T hK hB) (hr.mono (by decide)) rfl T.fences_of.mg T.fences_of.fn.kp T.fences_of.bn .nil pass0 (qpa1 (qpv 4) ns_Name)) ns_Call (qpe_lst qpa_nil) ns_List)) (qpe_one (qpe_call (ok_law_alike T) (hr.mono (by decide)) rfl T.law_alike.mg T.law_alike.fn.kp T.law_alike.bn .nil pass0 (qpa2 (qpe_call (ok_fences_of T hK hB) (hr.mono (by decide)) rfl T.fences_of.mg T.fences_of.fn.kp T.fences_of.bn .nil pass0 (qpa1 (qpv 3) ns_Name)) ns_Call (qpv 6) ns_Name))))))
    , ?_⟩
  clear  qpss13 qps_set qpe_call qpa1 qpe_op qpa2 qpv qpe_int qpe_callTy qps_if qPWpt qpw_or qpt_not qpt_val qpw_or1 qpt_cmpR qpss_one qps_ret qpe_bl qpss_nil qps_expr qpe_bm qpe_lst qpa_nil qpe_bm0 qpe_and qpe_one QE QT QW QA QS QSs QG QGs QI QO QIf
  simp only [sp_cell, tSeq, tNext, tRet, tRetN, tIfS, tAsg, gName, tDrop, tVar, tC, tOp, tUn, rI, rI0, rU, rEq, rNe, tTest, tB, tNot, tAnd, tOr, tAndV, tOrV, tNotV, tIf, tCB, tCall, tNil, tCons, tTup, tLst, gTup, gCons, gNil, L2.start, rIsi, rIxT, rIxL, cx_K, tyN_non, tyN_bl, tyN_int, tyN_str, isi_ii, isi_ib, isi_it, isi_il, isi_bi, isi_bb, isi_tt, isi_ni, isi_si, isi_ti, isi_li, isi_di, isi_ll, scal_ii, scal_bb, sz0, sz1, sz2, sz3, sz4, List.map_cons, List.map_nil, List.length_cons, List.length_nil, List.replicate, List.cons_append, List.nil_append, List.append_nil, List.getElem?_cons_zero, List.getElem?_cons_succ, List.set_cons_zero, List.set_cons_succ, Option.some.injEq, V.int.injEq, V.bl.injEq, V.ref.injEq, V.ty.injEq, List.cons.injEq, and_true, true_and, exists_eq_left, exists_eq_left', exists_and_left, exists_and_right, exists_eq, exists_eq', and_assoc, Nat.reduceAdd, Nat.reduceSub, Bool.not_true, Bool.not_false, Bool.false_eq_true, if_true, if_false, reduceIte, Nat.zero_add, decide_true, decide_false, selC, comp_K, tYes, Option.join_some, rIxTH, rIxLH, rLenH, rIsiF, at0, at1, at2, at3, at4, at5, at6, at7, at8, HO.tup.injEq, HO.lst.injEq, reduceCtorEq, false_or, or_false, tyF_non, tyF_bl, tyF_int, tyF_str, exists_const, Int.reduceAdd, Int.reduceMul, Int.reduceSub, gSub, rSetL, tSl, tPart, tNoPart, rSlH, upd_same, upd_upd, rIntB, rListH, tBM, tBM0, rAppend, rClear, tPar, gTupH]
  refine ⟨ns, hS, by decide, by decide, _, rfl, fun l bs H1 g1 hb => ?_⟩
  have hS1 := g1.seq hS
  have lt1 := lt.same g1
  simp only [sp_cell, tSeq, tNext, tRet, tRetN, tIfS, tAsg, gName, tDrop, tVar, tC, tOp, tUn, rI, rI0, rU, rEq, rNe, tTest, tB, tNot, tAnd, tOr, tAndV, tOrV, tNotV, tIf, tCB, tCall, tNil, tCons, tTup, tLst, gTup, gCons, gNil, L2.start, rIsi, rIxT, rIxL, cx_K, tyN_non, tyN_bl, tyN_int, tyN_str, isi_ii, isi_ib, isi_it, isi_il, isi_bi, isi_bb, isi_tt, isi_ni, isi_si, isi_ti, isi_li, isi_di, isi_ll, scal_ii, scal_bb, sz0, sz1, sz2, sz3, sz4, List.map_cons, List.map_nil, List.length_cons, List.length_nil, List.replicate, List.cons_append, List.nil_append, List.append_nil, List.getElem?_cons_zero, List.getElem?_cons_succ, List.set_cons_zero, List.set_cons_succ, Option.some.injEq, V.int.injEq, V.bl.injEq, V.ref.injEq, V.ty.injEq, List.cons.injEq, and_true, true_and, exists_eq_left, exists_eq_left', exists_and_left, exists_and_right, exists_eq, exists_eq', and_assoc, Nat.reduceAdd, Nat.reduceSub, Bool.not_true, Bool.not_false, Bool.false_eq_true, if_true, if_false, reduceIte, Nat.zero_add, decide_true, decide_false, selC, comp_K, tYes, Option.join_some, rIxTH, rIxLH, rLenH, rIsiF, at0, at1, at2, at3, at4, at5, at6, at7, at8, HO.tup.injEq, HO.lst.injEq, reduceCtorEq, false_or, or_false, tyF_non, tyF_bl, tyF_int, tyF_str, exists_const, Int.reduceAdd, Int.reduceMul, Int.reduceSub, gSub, rSetL, tSl, tPart, tNoPart, rSlH, upd_same, upd_upd, rIntB, rListH, tBM, tBM0, rAppend, rClear, tPar, gTupH]
  refine ⟨ns, hS1, by decide, _, rfl, fun p M H2 g2 hp => ?_⟩
  have hS2 := g2.seq hS1
  have lt2 := lt1.same g2
  have hb2 := hb.same g2
  have hM := hp.2
  simp only [tSeq, tNext, tRet, tRetN, tIfS, tAsg, gName, tDrop, tVar, tC, tOp, tUn, rI, rI0, rU, rEq, rNe, tTest, tB, tNot, tAnd, tOr, tAndV, tOrV, tNotV, tIf, tCB, tCall, tNil, tCons, tTup, tLst, gTup, gCons, gNil, L2.start, rIsi, rIxT, rIxL, cx_K, tyN_non, tyN_bl, tyN_int, tyN_str, isi_ii, isi_ib, isi_it, isi_il, isi_bi, isi_bb, isi_tt, isi_ni, isi_si, isi_ti, isi_li, isi_di, isi_ll, scal_ii, scal_bb, sz0, sz1, sz2, sz3, sz4, List.map_cons, List.map_nil, List.length_cons, List.length_nil, List.replicate, List.cons_append, List.nil_append, List.append_nil, List.getElem?_cons_zero, List.getElem?_cons_succ, List.set_cons_zero, List.set_cons_succ, Option.some.injEq, V.int.injEq, V.bl.injEq, V.ref.injEq, V.ty.injEq, List.cons.injEq, and_true, true_and, exists_eq_left, exists_eq_left', exists_and_left, exists_and_right, exists_eq, exists_eq', and_assoc, Nat.reduceAdd, Nat.reduceSub, Bool.not_true, Bool.not_false, Bool.false_eq_true, if_true, if_false, reduceIte, Nat.zero_add, decide_true, decide_false, selC, comp_K, tYes, Option.join_some, rIxTH, rIxLH, rLenH, rIsiF, at0, at1, at2, at3, at4, at5, at6, at7, at8, HO.tup.injEq, HO.lst.injEq, reduceCtorEq, false_or, or_false, tyF_non, tyF_bl, tyF_int, tyF_str, exists_const, Int.reduceAdd, Int.reduceMul, Int.reduceSub, gSub, rSetL, tSl, tPart, tNoPart, rSlH, upd_same, upd_upd, rIntB, rListH, tBM, tBM0, rAppend, rClear, tPar, gTupH]
  refine ⟨l, p, bs, M, rfl, hb2, hp, fun D ys rs H3 hD0 g3 hD3 hr3 pr => ?_⟩
  have hS3 := g3.seq hS2
  have lt3' := lt2.same g3
  have hb3 := hb2.same g3
  have hp3 := hp.same g3
  simp only [tSeq, tNext, tRet, tRetN, tIfS, tAsg, gName, tDrop, tVar, tC, tOp, tUn, rI, rI0, rU, rEq, rNe, tTest, tB, tNot, tAnd, tOr, tAndV, tOrV, tNotV, tIf, tCB, tCall, tNil, tCons, tTup, tLst, gTup, gCons, gNil, L2.start, rIsi, rIxT, rIxL, cx_K, tyN_non, tyN_bl, tyN_int, tyN_str, isi_ii, isi_ib, isi_it, isi_il, isi_bi, isi_bb, isi_tt, isi_ni, isi_si, isi_ti, isi_li, isi_di, isi_ll, scal_ii, scal_bb, sz0, sz1, sz2, sz3, sz4, List.map_cons, List.map_nil, List.length_cons, List.length_nil, List.replicate, List.cons_append, List.nil_append, List.append_nil, List.getElem?_cons_zero, List.getElem?_cons_succ, List.set_cons_zero, List.set_cons_succ, Option.some.injEq, V.int.injEq, V.bl.injEq, V.ref.injEq, V.ty.injEq, List.cons.injEq, and_true, true_and, exists_eq_left, exists_eq_left', exists_and_left, exists_and_right, exists_eq, exists_eq', and_assoc, Nat.reduceAdd, Nat.reduceSub, Bool.not_true, Bool.not_false, Bool.false_eq_true, if_true, if_false, reduceIte, Nat.zero_add, decide_true, decide_false, selC, comp_K, tYes, Option.join_some, rIxTH, rIxLH, rLenH, rIsiF, at0, at1, at2, at3, at4, at5, at6, at7, at8, HO.tup.injEq, HO.lst.injEq, reduceCtorEq, false_or, or_false, tyF_non, tyF_bl, tyF_int, tyF_str, exists_const, Int.reduceAdd, Int.reduceMul, Int.reduceSub, gSub, rSetL, tSl, tPart, tNoPart, rSlH, upd_same, upd_upd, rIntB, rListH, tBM, tBM0, rAppend, rClear, tPar, gTupH, hD3]
  intro N hN
  have nN : D ≠ N := ne_of_none hD3 hN
  have g4 := same_new hN (HO.lst ys)
  have hN4 : upd H3 N (HO.lst ys) N = some (HO.lst ys) := upd_same
  have hD4 := g4 _ _ hD3
  have hS4 := g4.seq hS3
  have lt4 := lt3'.same g4
  have hb4 := hb3.same g4
  have hp4 := hp3.same g4
  have hr4 := hr3.ts roh_ts (ts_same g4)
  generalize upd H3 N (HO.lst ys) = H4 at *
  clear hS hS1 hS2 hS3 lt lt1 lt2 lt3' hb hb2 hb3 hp hp3 hr3 g1 g2 g3 g4 hD0 hD3 hN H H1 H2 H3
  have wl := ways_len (inB_in bs)
  refine sp_fen_of hN4 hr4 pr hM lt4 fun F zs H5 hF0 s5 lt5 hF5 fnd => ?_
  refine ⟨l, p, bs, M, rfl, hb4.sl s5, hp4.sl s5, fun U us ws H6 hU0 g6 hU6 hu6 pws pww => ?_⟩
  have ff5 := fnd ws pws pww
  have nDF : D ≠ F := ne_of_none hD4 hF0
  have nNF : N ≠ F := ne_of_none hN4 hF0
  have nFU : F ≠ U := ne_of_none hF5 hU0
  have nDU : D ≠ U := ne_of_none (s5.lst hD4) hU0
  have nNU : N ≠ U := ne_of_none (s5.lst hN4) hU0
  have lu : us.length ≤ 40 := by rw [hu6.1, List.length_map, pws.length_eq]; exact wl
  have ff6 := ff5.ts feq_ts (ts_same g6)
  have lz : zs.length ≤ 40 := by rw [ff6.1, ← hu6.1]; exact lu
  have hF6 := g6 _ _ hF5
  have s6 := s5.trans (.of g6)
  have hr6 := hr4.ts roh_ts s6.ts
  have lt6 := lt5.same g6
  refine ⟨_, _, rfl, al_fel hF6 hU6 ff6 hu6 (by omega), _, rfl, iteF ?_⟩
  refine ⟨_, _, rd_rows (s6.lst hN4) hr6, rd_rows (s6.lst hD4) hr6, (rows_sh _).1, (rows_sh _).1, _, rfl, ?_⟩
  rw [(rows_sh _).2]
  refine iteF ⟨tyV_of hF6, F, rfl, zs, hF6, small1000 (by omega), ns, ?_⟩
  have s7 : SameL H4 (upd H6 F (.lst (zs ++ [.int 1]))) := s6.put hF0
  have hF7 : upd H6 F (.lst (zs ++ [.int 1])) F = some (.lst (zs ++ [.int 1])) := upd_same
  have hU7 : upd H6 F (.lst (zs ++ [.int 1])) U = some (.lst us) := by rw [upd_ne nFU.symm]; exact hU6
  have ff7 := ff6.ts feq_ts (ts_put (o := .lst (zs ++ [.int 1])) hF6)
  have hu7 := hu6.ts feq_ts (ts_put (o := .lst (zs ++ [.int 1])) hF6)
  have lt7 := lamTab_put (o := .lst (zs ++ [.int 1])) lt6 hF6
  generalize upd H6 F (.lst (zs ++ [.int 1])) = H7 at *
  have hD7 := s7.lst hD4
  have hN7 := s7.lst hN4
  have hp7 := hp4.sl s7
  have hr7 := hr4.ts roh_ts s7.ts
  refine ⟨s7.seq hS4, by decide, by decide, _, rfl, fun l2 bs2 H8 g8 hb8 => ?_⟩
  refine ⟨l2, p, bs2, M, rfl, hb8, hp7.same g8, fun D2 ys2 rs2 H9 hD20 g9 hD29 hr29 pr2 => ?_⟩
  refine sp_fen_of hD29 hr29 pr2 hM ((lt7.same g8).same g9) fun F2 zs2 H10 hF20 s10 lt10 hF210 fnd2 => ?_
  have s10' : SameL H7 H10 := (SameL.of (g8.trans g9)).trans s10
  have wl2 := ways_len (inB_in bs2)
  refine ⟨l2, p, bs2, M, rfl, (hb8.same g9).sl s10, hp7.sl s10', fun U2 us2 ws2 H11 hU20 g11 hU211 hu2 pws2 pww2 => ?_⟩
  have lu2 : us2.length ≤ 40 := by rw [hu2.1, List.length_map, pws2.length_eq]; exact wl2
  refine ⟨_, _, rfl, al_fel (g11 _ _ hF210) hU211 ((fnd2 ws2 pws2 pww2).ts feq_ts (ts_same g11)) hu2 (by omega), _, rfl, iteF ?_⟩
  have s11 := s10'.trans (.of g11)
  have lt11 := lt10.same g11
  refine sp_fen_of (s11.lst hD7) (hr7.ts roh_ts s11.ts) pr hM lt11 fun F3 zs3 H12 hF30 s12 lt12 hF312 fnd3 => ?_
  have s12' := s11.trans s12
  refine ⟨_, _, rfl, al_fel hF312 (s12'.lst hU7) (fnd3 ws pws pww) (hu7.ts feq_ts s12'.ts) (by omega), _, rfl, iteF fun e1 he1 => ?_⟩
  have g13 := same_new he1 (HO.lst [])
  refine sp_fen_nil upd_same (lt12.same g13) fun F4 H14 hF40 s14 lt14 hF4 => fun e2 he2 => ?_
  have s14' : SameL H7 H14 := s12'.trans ((SameL.of g13).trans s14)
  clear s12' s12 s11 s10' s10 s7 fnd fnd2 fnd3 hu6 ff6 ff5 hr6 lt6 lt7 lt10 lt11 lt12 s5 s6
  have g15 := same_new he2 (HO.lst [])
  refine ⟨_, _, rfl, al_nil (g15 _ _ hF4) upd_same, _, rfl, iteF fun e3 he3 => ?_⟩
  have s15 := s14'.trans (.of g15)
  have lt15 := lt14.same g15
  generalize upd H14 e2 (HO.lst []) = H15 at *
  have g16 := same_new he3 (HO.lst [V.int 1])
  have h16 : upd H15 e3 (HO.lst [V.int 1]) e3 = some (HO.lst [V.int 1]) := upd_same
  have s16 := s15.trans (.of g16)
  have lt16 := lt15.same g16
  generalize upd H15 e3 (HO.lst [V.int 1]) = H16 at *
  have hU16 := s16.lst hU7
  refine ⟨U, e3, us, [.int 1], rfl, rfl, hU16, h16, Nat.le_of_lt (small1000 (by show us.length + 1 ≤ 1000; omega)), fun C hC => ?_⟩
  have g17 := same_new hC (HO.lst (us ++ [V.int 1]))
  have hC17 : upd H16 C (HO.lst (us ++ [V.int 1])) C = some (HO.lst (us ++ [V.int 1])) := upd_same
  have s17 := s16.trans (.of g17)
  have lt17 := lt16.same g17
  generalize upd H16 C (HO.lst (us ++ [V.int 1])) = H17 at *
  refine ⟨_, _, rd_fes (s17.lst hF7) (ff7.ts feq_ts s17.ts), rd_fes hC17 (hu7.ts feq_ts s17.ts), (fes_sh _).1, (fes_sh _).1, _, rfl, ?_⟩
  rw [(fes_sh _).2]
  have hN17 := s17.lst hN7
  refine iteF ⟨tyV_of hN17, ⟨_, hN17⟩, ?_⟩
  have t18 := ts_put (o := HO.lst []) hN17
  have lt18 := lamTab_put (o := HO.lst []) lt17 hN17
  have hN18 : upd H17 N (HO.lst []) N = some (HO.lst []) := upd_same
  have hD18 : upd H17 N (HO.lst []) D = some (HO.lst ys) := by rw [upd_ne nN]; exact s17.lst hD7
  have hU18 : upd H17 N (HO.lst []) U = some (HO.lst us) := by rw [upd_ne nNU.symm]; exact s17.lst hU7
  have hr18 := (hr7.ts roh_ts s17.ts).ts roh_ts t18
  have hu18 := (hu7.ts feq_ts s17.ts).ts feq_ts t18
  generalize upd H17 N (HO.lst []) = H18 at *
  refine sp_fen_nil hN18 lt18 fun F5 H19 hF50 s19 lt19 hF5 => fun e4 he4 => ?_
  have g20 := same_new he4 (HO.lst [])
  refine ⟨_, _, rfl, al_nil (g20 _ _ hF5) upd_same, _, rfl, iteT ?_⟩
  have s20 := s19.trans (.of g20)
  have lt20 := lt19.same g20
  generalize upd H19 e4 (HO.lst []) = H20 at *
  refine sp_fen_of (s20.lst hD18) (hr18.ts roh_ts s20.ts) pr hM lt20 fun F6 zs6 H21 hF60 s21 lt21 hF6 fnd6 => ?_
  have s21' := s20.trans s21
  exact ⟨_, _, rfl, al_fel hF6 (s21'.lst hU18) (fnd6 ws pws pww) (hu18.ts feq_ts s21'.ts) (by omega), k _⟩
end
theorem all_mk {l : PySem.W.OpenLaw} {w : World} {K : PySem.W.Frag} {h : Heap} {mg : Str → Option Value} {fa f0 f1 f2 f3 f4 f5 cT pT f6 f7 f8 f9 f10 f11 f12 f13 f14 f15 f16 f17 f18 f19 f20 f21 f22 f23 : Addr} (X : K.In h) (G : h.Ns mainGlobals mg) (hfa : mg "law" = some (.ref fa))
    {od0 an0 : Option Addr} {sl0 : Array (Option Value)} {oc0 kV0 dc0 pm0 cd0 ct0 : Value}
    {od1 an1 : Option Addr} {sl1 : Array (Option Value)} {oc1 kV1 dc1 pm1 cd1 ct1 : Value}
    {od2 an2 : Option Addr} {sl2 : Array (Option Value)} {oc2 kV2 dc2 pm2 cd2 ct2 : Value}
    {od3 an3 : Option Addr} {sl3 : Array (Option Value)} {oc3 kV3 dc3 pm3 cd3 ct3 : Value}
    {od4 an4 : Option Addr} {sl4 : Array (Option Value)} {oc4 kV4 dc4 pm4 cd4 ct4 : Value}
    {od5 an5 : Option Addr} {sl5 : Array (Option Value)} {oc5 kV5 dc5 pm5 ct5 : Value}
    {tdT : Option Addr} {tvT : Array Value} {tsT : Array (Option Value)} {tcT : Value}
    {od6 an6 : Option Addr} {sl6 : Array (Option Value)} {oc6 kV6 dc6 pm6 cd6 ct6 : Value}
    {od7 an7 : Option Addr} {sl7 : Array (Option Value)} {oc7 kV7 dc7 pm7 cd7 ct7 : Value}
    {od8 an8 : Option Addr} {sl8 : Array (Option Value)} {oc8 kV8 dc8 pm8 cd8 ct8 : Value}
    {od9 an9 : Option Addr} {sl9 : Array (Option Value)} {oc9 kV9 dc9 pm9 cd9 ct9 : Value}
    {od10 an10 : Option Addr} {sl10 : Array (Option Value)} {oc10 kV10 dc10 pm10 cd10 ct10 : Value}
    {od11 an11 : Option Addr} {sl11 : Array (Option Value)} {oc11 kV11 dc11 pm11 cd11 ct11 : Value}
    {od12 an12 : Option Addr} {sl12 : Array (Option Value)} {oc12 kV12 dc12 pm12 cd12 ct12 : Value}
    {od13 an13 : Option Addr} {sl13 : Array (Option Value)} {oc13 kV13 dc13 pm13 cd13 ct13 : Value}
    {od14 an14 : Option Addr} {sl14 : Array (Option Value)} {oc14 kV14 dc14 pm14 cd14 ct14 : Value}
    {od15 an15 : Option Addr} {sl15 : Array (Option Value)} {oc15 kV15 dc15 pm15 cd15 ct15 : Value}
    {od16 an16 : Option Addr} {sl16 : Array (Option Value)} {oc16 kV16 dc16 pm16 cd16 ct16 : Value}
    {od17 an17 : Option Addr} {sl17 : Array (Option Value)} {oc17 kV17 dc17 pm17 cd17 ct17 : Value}
    {od18 an18 : Option Addr} {sl18 : Array (Option Value)} {oc18 kV18 dc18 pm18 cd18 ct18 : Value}
    {od19 an19 : Option Addr} {sl19 : Array (Option Value)} {oc19 kV19 dc19 pm19 cd19 ct19 : Value}
    {od20 an20 : Option Addr} {sl20 : Array (Option Value)} {oc20 kV20 dc20 pm20 cd20 ct20 : Value}
    {od21 an21 : Option Addr} {sl21 : Array (Option Value)} {oc21 kV21 dc21 pm21 cd21 ct21 : Value}
    {od22 an22 : Option Addr} {sl22 : Array (Option Value)} {oc22 kV22 dc22 pm22 cd22 ct22 : Value}
    {od23 an23 : Option Addr} {sl23 : Array (Option Value)} {oc23 kV23 dc23 pm23 cd23 ct23 : Value}
    (a0 : PySem.W.nsIn K mainGlobals "sign_of" = some (some (.ref f0))) (l0 : K.lookup f0 = some ⟨oc0, od0, .func (PySem.W.fnOf "sign_of" "sign_of" (defArgs s_sign_of) (defBody s_sign_of) (defScope s_sign_of) .none kV0 dc0 pm0 an0 cd0 ct0), sl0⟩) (c0 : PySem.W.codeIn K cd0 "sign_of" = true) (k0 : PySem.W.keepIn K (.ref f0) = true)
    (a1 : PySem.W.nsIn K mainGlobals "line_of" = some (some (.ref f1))) (l1 : K.lookup f1 = some ⟨oc1, od1, .func (PySem.W.fnOf "line_of" "line_of" (defArgs s_line_of) (defBody s_line_of) (defScope s_line_of) .none kV1 dc1 pm1 an1 cd1 ct1), sl1⟩) (c1 : PySem.W.codeIn K cd1 "line_of" = true) (k1 : PySem.W.keepIn K (.ref f1) = true)
    (a2 : PySem.W.nsIn K mainGlobals "side_of" = some (some (.ref f2))) (l2 : K.lookup f2 = some ⟨oc2, od2, .func (PySem.W.fnOf "side_of" "side_of" (defArgs s_side_of) (defBody s_side_of) (defScope s_side_of) .none kV2 dc2 pm2 an2 cd2 ct2), sl2⟩) (c2 : PySem.W.codeIn K cd2 "side_of" = true) (k2 : PySem.W.keepIn K (.ref f2) = true)
    (a3 : PySem.W.nsIn K mainGlobals "turn" = some (some (.ref f3))) (l3 : K.lookup f3 = some ⟨oc3, od3, .func (PySem.W.fnOf "turn" "turn" (defArgs s_turn) (defBody s_turn) (defScope s_turn) .none kV3 dc3 pm3 an3 cd3 ct3), sl3⟩) (c3 : PySem.W.codeIn K cd3 "turn" = true) (k3 : PySem.W.keepIn K (.ref f3) = true)
    (a4 : PySem.W.nsIn K mainGlobals "order_keys" = some (some (.ref f4))) (l4 : K.lookup f4 = some ⟨oc4, od4, .func (PySem.W.fnOf "order_keys" "order_keys" (defArgs s_order_keys) (defBody s_order_keys) (defScope s_order_keys) .none kV4 dc4 pm4 an4 cd4 ct4), sl4⟩) (c4 : PySem.W.codeIn K cd4 "order_keys" = true) (k4 : PySem.W.keepIn K (.ref f4) = true)
    (a5 : PySem.W.nsIn K mainGlobals "by_points" = some (some (.ref f5))) (l5 : K.lookup f5 = some ⟨oc5, od5, .func (PySem.W.fnOf "by_points" "by_points" (defArgs s_by_points) (defBody s_by_points) (defScope s_by_points) .none kV5 dc5 pm5 an5 (.ref cT) ct5), sl5⟩) (c5 : PySem.W.codeIn K (.ref cT) "by_points" = true) (k5 : PySem.W.keepIn K (.ref f5) = true)
    (lT : K.lookup cT = some ⟨tcT, tdT, .fields tvT, tsT⟩) (vT : tvT[11]? = some (.ref pT)) (hT : PySem.W.codeHdIn K cT pT = true) (tT : PySem.W.tabIn K "by_points" = some (cT, pT)) (nT : K.lookup pT = none)
    (a6 : PySem.W.nsIn K mainGlobals "fences_of" = some (some (.ref f6))) (l6 : K.lookup f6 = some ⟨oc6, od6, .func (PySem.W.fnOf "fences_of" "fences_of" (defArgs s_fences_of) (defBody s_fences_of) (defScope s_fences_of) .none kV6 dc6 pm6 an6 cd6 ct6), sl6⟩) (c6 : PySem.W.codeIn K cd6 "fences_of" = true) (k6 : PySem.W.keepIn K (.ref f6) = true)
    (a7 : PySem.W.nsIn K mainGlobals "straightened" = some (some (.ref f7))) (l7 : K.lookup f7 = some ⟨oc7, od7, .func (PySem.W.fnOf "straightened" "straightened" (defArgs s_straightened) (defBody s_straightened) (defScope s_straightened) .none kV7 dc7 pm7 an7 cd7 ct7), sl7⟩) (c7 : PySem.W.codeIn K cd7 "straightened" = true) (k7 : PySem.W.keepIn K (.ref f7) = true)
    (a8 : PySem.W.nsIn K mainGlobals "straight_on" = some (some (.ref f8))) (l8 : K.lookup f8 = some ⟨oc8, od8, .func (PySem.W.fnOf "straight_on" "straight_on" (defArgs s_straight_on) (defBody s_straight_on) (defScope s_straight_on) .none kV8 dc8 pm8 an8 cd8 ct8), sl8⟩) (c8 : PySem.W.codeIn K cd8 "straight_on" = true) (k8 : PySem.W.keepIn K (.ref f8) = true)
    (a9 : PySem.W.nsIn K mainGlobals "_law_cell_at" = some (some (.ref f9))) (l9 : K.lookup f9 = some ⟨oc9, od9, .func (PySem.W.fnOf "_law_cell_at" "_law_cell_at" (defArgs s_law_cell_at) (defBody s_law_cell_at) (defScope s_law_cell_at) .none kV9 dc9 pm9 an9 cd9 ct9), sl9⟩) (c9 : PySem.W.codeIn K cd9 "_law_cell_at" = true) (k9 : PySem.W.keepIn K (.ref f9) = true)
    (a10 : PySem.W.nsIn K mainGlobals "_law_whole" = some (some (.ref f10))) (l10 : K.lookup f10 = some ⟨oc10, od10, .func (PySem.W.fnOf "_law_whole" "_law_whole" (defArgs s_law_whole) (defBody s_law_whole) (defScope s_law_whole) .none kV10 dc10 pm10 an10 cd10 ct10), sl10⟩) (c10 : PySem.W.codeIn K cd10 "_law_whole" = true) (k10 : PySem.W.keepIn K (.ref f10) = true)
    (a11 : PySem.W.nsIn K mainGlobals "_law_held" = some (some (.ref f11))) (l11 : K.lookup f11 = some ⟨oc11, od11, .func (PySem.W.fnOf "_law_held" "_law_held" (defArgs s_law_held) (defBody s_law_held) (defScope s_law_held) .none kV11 dc11 pm11 an11 cd11 ct11), sl11⟩) (c11 : PySem.W.codeIn K cd11 "_law_held" = true) (k11 : PySem.W.keepIn K (.ref f11) = true)
    (a12 : PySem.W.nsIn K mainGlobals "_law_in" = some (some (.ref f12))) (l12 : K.lookup f12 = some ⟨oc12, od12, .func (PySem.W.fnOf "_law_in" "_law_in" (defArgs s_law_in) (defBody s_law_in) (defScope s_law_in) .none kV12 dc12 pm12 an12 cd12 ct12), sl12⟩) (c12 : PySem.W.codeIn K cd12 "_law_in" = true) (k12 : PySem.W.keepIn K (.ref f12) = true)
    (a13 : PySem.W.nsIn K mainGlobals "_law_edge" = some (some (.ref f13))) (l13 : K.lookup f13 = some ⟨oc13, od13, .func (PySem.W.fnOf "_law_edge" "_law_edge" (defArgs s_law_edge) (defBody s_law_edge) (defScope s_law_edge) .none kV13 dc13 pm13 an13 cd13 ct13), sl13⟩) (c13 : PySem.W.codeIn K cd13 "_law_edge" = true) (k13 : PySem.W.keepIn K (.ref f13) = true)
    (a14 : PySem.W.nsIn K mainGlobals "_law_smooth" = some (some (.ref f14))) (l14 : K.lookup f14 = some ⟨oc14, od14, .func (PySem.W.fnOf "_law_smooth" "_law_smooth" (defArgs s_law_smooth) (defBody s_law_smooth) (defScope s_law_smooth) .none kV14 dc14 pm14 an14 cd14 ct14), sl14⟩) (c14 : PySem.W.codeIn K cd14 "_law_smooth" = true) (k14 : PySem.W.keepIn K (.ref f14) = true)
    (a15 : PySem.W.nsIn K mainGlobals "_law_leaves" = some (some (.ref f15))) (l15 : K.lookup f15 = some ⟨oc15, od15, .func (PySem.W.fnOf "_law_leaves" "_law_leaves" (defArgs s_law_leaves) (defBody s_law_leaves) (defScope s_law_leaves) .none kV15 dc15 pm15 an15 cd15 ct15), sl15⟩) (c15 : PySem.W.codeIn K cd15 "_law_leaves" = true) (k15 : PySem.W.keepIn K (.ref f15) = true)
    (a16 : PySem.W.nsIn K mainGlobals "_law_ways" = some (some (.ref f16))) (l16 : K.lookup f16 = some ⟨oc16, od16, .func (PySem.W.fnOf "_law_ways" "_law_ways" (defArgs s_law_ways) (defBody s_law_ways) (defScope s_law_ways) .none kV16 dc16 pm16 an16 cd16 ct16), sl16⟩) (c16 : PySem.W.codeIn K cd16 "_law_ways" = true) (k16 : PySem.W.keepIn K (.ref f16) = true)
    (a17 : PySem.W.nsIn K mainGlobals "_law_map" = some (some (.ref f17))) (l17 : K.lookup f17 = some ⟨oc17, od17, .func (PySem.W.fnOf "_law_map" "_law_map" (defArgs s_law_map) (defBody s_law_map) (defScope s_law_map) .none kV17 dc17 pm17 an17 cd17 ct17), sl17⟩) (c17 : PySem.W.codeIn K cd17 "_law_map" = true) (k17 : PySem.W.keepIn K (.ref f17) = true)
    (a18 : PySem.W.nsIn K mainGlobals "_law_spot" = some (some (.ref f18))) (l18 : K.lookup f18 = some ⟨oc18, od18, .func (PySem.W.fnOf "_law_spot" "_law_spot" (defArgs s_law_spot) (defBody s_law_spot) (defScope s_law_spot) .none kV18 dc18 pm18 an18 cd18 ct18), sl18⟩) (c18 : PySem.W.codeIn K cd18 "_law_spot" = true) (k18 : PySem.W.keepIn K (.ref f18) = true)
    (a19 : PySem.W.nsIn K mainGlobals "_law_low" = some (some (.ref f19))) (l19 : K.lookup f19 = some ⟨oc19, od19, .func (PySem.W.fnOf "_law_low" "_law_low" (defArgs s_law_low) (defBody s_law_low) (defScope s_law_low) .none kV19 dc19 pm19 an19 cd19 ct19), sl19⟩) (c19 : PySem.W.codeIn K cd19 "_law_low" = true) (k19 : PySem.W.keepIn K (.ref f19) = true)
    (a20 : PySem.W.nsIn K mainGlobals "_law_land" = some (some (.ref f20))) (l20 : K.lookup f20 = some ⟨oc20, od20, .func (PySem.W.fnOf "_law_land" "_law_land" (defArgs s_law_land) (defBody s_law_land) (defScope s_law_land) .none kV20 dc20 pm20 an20 cd20 ct20), sl20⟩) (c20 : PySem.W.codeIn K cd20 "_law_land" = true) (k20 : PySem.W.keepIn K (.ref f20) = true)
    (a21 : PySem.W.nsIn K mainGlobals "_law_alike" = some (some (.ref f21))) (l21 : K.lookup f21 = some ⟨oc21, od21, .func (PySem.W.fnOf "_law_alike" "_law_alike" (defArgs s_law_alike) (defBody s_law_alike) (defScope s_law_alike) .none kV21 dc21 pm21 an21 cd21 ct21), sl21⟩) (c21 : PySem.W.codeIn K cd21 "_law_alike" = true) (k21 : PySem.W.keepIn K (.ref f21) = true)
    (a22 : PySem.W.nsIn K mainGlobals "_law_rows" = some (some (.ref f22))) (l22 : K.lookup f22 = some ⟨oc22, od22, .func (PySem.W.fnOf "_law_rows" "_law_rows" (defArgs s_law_rows) (defBody s_law_rows) (defScope s_law_rows) .none kV22 dc22 pm22 an22 cd22 ct22), sl22⟩) (c22 : PySem.W.codeIn K cd22 "_law_rows" = true) (k22 : PySem.W.keepIn K (.ref f22) = true)
    (a23 : PySem.W.nsIn K mainGlobals "law" = some (some (.ref f23))) (l23 : K.lookup f23 = some ⟨oc23, od23, .func (PySem.W.fnOf "law" "law" (defArgs s_law) (defBody s_law) (defScope s_law) .none kV23 dc23 pm23 an23 cd23 ct23), sl23⟩) (c23 : PySem.W.codeIn K cd23 "law" = true) (k23 : PySem.W.keepIn K (.ref f23) = true)
    (z0 : PySem.W.nsIn K mainGlobals "bool" = some none)
    (z1 : PySem.W.nsIn K mainGlobals "int" = some none)
    (z2 : PySem.W.nsIn K mainGlobals "isinstance" = some none)
    (z3 : PySem.W.nsIn K mainGlobals "len" = some none)
    (z4 : PySem.W.nsIn K mainGlobals "list" = some none)
    (z5 : PySem.W.nsIn K mainGlobals "max" = some none)
    (z6 : PySem.W.nsIn K mainGlobals "min" = some none)
    (z7 : PySem.W.nsIn K mainGlobals "range" = some none)
    (z8 : PySem.W.nsIn K mainGlobals "sorted" = some none)
    (z9 : PySem.W.nsIn K mainGlobals "tuple" = some none)
    : ∃ (fd : FuncData) (ts : List Addr), (∀ b, b ∈ ts → K.lookup b = none ∧ ∃ y c, y ∈ ([Str.ofString "by_points"] : List Str) ∧ PySem.W.tabIn K y = some (c, b)) ∧ (∀ (s : Shared) (v : Value), BindsTo s fd ⟨[v], []⟩ [("_law_script", v)]) ∧ ∀ base : Heap, K.In base → base.Ns mainGlobals mg → (∀ b, b ∈ ts → base.BuiltinsAt mg b) → FnOk l.prog w K mg base CX0 7 fa fd ["_law_script"] (sp_lawT K ts) := by
  have e := hfa.symm.trans (PySem.W.mg_of X G a23)
  cases e
  have F0 := fun_mk (st := s_sign_of) l0 c0 k0
  have b0 := F0.binds (ps := ["number"]) fun _ _ _ _ _ _ us hl => match us, hl with | [_], _ => rfl
  have F1 := fun_mk (st := s_line_of) l1 c1 k1
  have b1 := F1.binds (ps := ["P", "Q"]) fun _ _ _ _ _ _ us hl => match us, hl with | [_, _], _ => rfl
  have F2 := fun_mk (st := s_side_of) l2 c2 k2
  have b2 := F2.binds (ps := ["line", "P"]) fun _ _ _ _ _ _ us hl => match us, hl with | [_, _], _ => rfl
  have F3 := fun_mk (st := s_turn) l3 c3 k3
  have b3 := F3.binds (ps := ["P", "Q", "R"]) fun _ _ _ _ _ _ us hl => match us, hl with | [_, _, _], _ => rfl
  have F4 := fun_mk (st := s_order_keys) l4 c4 k4
  have b4 := F4.binds (ps := ["points"]) fun _ _ _ _ _ _ us hl => match us, hl with | [_], _ => rfl
  have F5 := fun_mk (st := s_by_points) l5 c5 k5
  have FC5 : FunC K "by_points" "by_points" s_by_points f5 _ cT pT := ⟨⟨_, _, _, _, _, _, _, _, rfl, l5, c5⟩, hT⟩
  have b5 := F5.binds (ps := ["things"]) fun _ _ _ _ _ _ us hl => match us, hl with | [_], _ => rfl
  have F6 := fun_mk (st := s_fences_of) l6 c6 k6
  have b6 := F6.binds (ps := ["rows"]) fun _ _ _ _ _ _ us hl => match us, hl with | [_], _ => rfl
  have F7 := fun_mk (st := s_straightened) l7 c7 k7
  have b7 := F7.binds (ps := ["fences"]) fun _ _ _ _ _ _ us hl => match us, hl with | [_], _ => rfl
  have F8 := fun_mk (st := s_straight_on) l8 c8 k8
  have b8 := F8.binds (ps := ["fences"]) fun _ _ _ _ _ _ us hl => match us, hl with | [_], _ => rfl
  have F9 := fun_mk (st := s_law_cell_at) l9 c9 k9
  have b9 := F9.binds (ps := ["_law_script", "_law_k"]) fun _ _ _ _ _ _ us hl => match us, hl with | [_, _], _ => rfl
  have F10 := fun_mk (st := s_law_whole) l10 c10 k10
  have b10 := F10.binds (ps := ["_law_found"]) fun _ _ _ _ _ _ us hl => match us, hl with | [_], _ => rfl
  have F11 := fun_mk (st := s_law_held) l11 c11 k11
  have b11 := F11.binds (ps := ["_law_cell"]) fun _ _ _ _ _ _ us hl => match us, hl with | [_], _ => rfl
  have F12 := fun_mk (st := s_law_in) l12 c12 k12
  have b12 := F12.binds (ps := ["_law_held_here", "_law_x", "_law_y"]) fun _ _ _ _ _ _ us hl => match us, hl with | [_, _, _], _ => rfl
  have F13 := fun_mk (st := s_law_edge) l13 c13 k13
  have b13 := F13.binds (ps := ["_law_held_here", "_law_x", "_law_y", "_law_way"]) fun _ _ _ _ _ _ us hl => match us, hl with | [_, _, _, _], _ => rfl
  have F14 := fun_mk (st := s_law_smooth) l14 c14 k14
  have b14 := F14.binds (ps := ["_law_held_here", "_law_x", "_law_y"]) fun _ _ _ _ _ _ us hl => match us, hl with | [_, _, _], _ => rfl
  have F15 := fun_mk (st := s_law_leaves) l15 c15 k15
  have b15 := F15.binds (ps := ["_law_held_here", "_law_x", "_law_y", "_law_dx", "_law_dy"]) fun _ _ _ _ _ _ us hl => match us, hl with | [_, _, _, _, _], _ => rfl
  have F16 := fun_mk (st := s_law_ways) l16 c16 k16
  have b16 := F16.binds (ps := ["_law_held_here"]) fun _ _ _ _ _ _ us hl => match us, hl with | [_], _ => rfl
  have F17 := fun_mk (st := s_law_map) l17 c17 k17
  have b17 := F17.binds (ps := ["_law_cell"]) fun _ _ _ _ _ _ us hl => match us, hl with | [_], _ => rfl
  have F18 := fun_mk (st := s_law_spot) l18 c18 k18
  have b18 := F18.binds (ps := ["_law_map_of", "_law_x", "_law_y", "_law_w"]) fun _ _ _ _ _ _ us hl => match us, hl with | [_, _, _, _], _ => rfl
  have F19 := fun_mk (st := s_law_low) l19 c19 k19
  have b19 := F19.binds (ps := ["_law_spot_here"]) fun _ _ _ _ _ _ us hl => match us, hl with | [_], _ => rfl
  have F20 := fun_mk (st := s_law_land) l20 c20 k20
  have b20 := F20.binds (ps := ["_law_held_here", "_law_map_of"]) fun _ _ _ _ _ _ us hl => match us, hl with | [_, _], _ => rfl
  have F21 := fun_mk (st := s_law_alike) l21 c21 k21
  have b21 := F21.binds (ps := ["_law_found", "_law_due"]) fun _ _ _ _ _ _ us hl => match us, hl with | [_, _], _ => rfl
  have F22 := fun_mk (st := s_law_rows) l22 c22 k22
  have b22 := F22.binds (ps := ["_law_held_here", "_law_map_of"]) fun _ _ _ _ _ _ us hl => match us, hl with | [_, _], _ => rfl
  have F23 := fun_mk (st := s_law) l23 c23 k23
  have b23 := F23.binds (ps := ["_law_script"]) fun _ _ _ _ _ _ us hl => match us, hl with | [_], _ => rfl
  have T : Txt K mg (fun n => [f0, f1, f2, f3, f4, f5, f6, f7, f8, f9, f10, f11, f12, f13, f14, f15, f16, f17, f18, f19, f20, f21, f22, fa, cT, pT].getD n 0) (fun n => [PySem.W.fnOf "sign_of" "sign_of" (defArgs s_sign_of) (defBody s_sign_of) (defScope s_sign_of) .none kV0 dc0 pm0 an0 cd0 ct0, PySem.W.fnOf "line_of" "line_of" (defArgs s_line_of) (defBody s_line_of) (defScope s_line_of) .none kV1 dc1 pm1 an1 cd1 ct1, PySem.W.fnOf "side_of" "side_of" (defArgs s_side_of) (defBody s_side_of) (defScope s_side_of) .none kV2 dc2 pm2 an2 cd2 ct2, PySem.W.fnOf "turn" "turn" (defArgs s_turn) (defBody s_turn) (defScope s_turn) .none kV3 dc3 pm3 an3 cd3 ct3, PySem.W.fnOf "order_keys" "order_keys" (defArgs s_order_keys) (defBody s_order_keys) (defScope s_order_keys) .none kV4 dc4 pm4 an4 cd4 ct4, PySem.W.fnOf "by_points" "by_points" (defArgs s_by_points) (defBody s_by_points) (defScope s_by_points) .none kV5 dc5 pm5 an5 (.ref cT) ct5, PySem.W.fnOf "fences_of" "fences_of" (defArgs s_fences_of) (defBody s_fences_of) (defScope s_fences_of) .none kV6 dc6 pm6 an6 cd6 ct6, PySem.W.fnOf "straightened" "straightened" (defArgs s_straightened) (defBody s_straightened) (defScope s_straightened) .none kV7 dc7 pm7 an7 cd7 ct7, PySem.W.fnOf "straight_on" "straight_on" (defArgs s_straight_on) (defBody s_straight_on) (defScope s_straight_on) .none kV8 dc8 pm8 an8 cd8 ct8, PySem.W.fnOf "_law_cell_at" "_law_cell_at" (defArgs s_law_cell_at) (defBody s_law_cell_at) (defScope s_law_cell_at) .none kV9 dc9 pm9 an9 cd9 ct9, PySem.W.fnOf "_law_whole" "_law_whole" (defArgs s_law_whole) (defBody s_law_whole) (defScope s_law_whole) .none kV10 dc10 pm10 an10 cd10 ct10, PySem.W.fnOf "_law_held" "_law_held" (defArgs s_law_held) (defBody s_law_held) (defScope s_law_held) .none kV11 dc11 pm11 an11 cd11 ct11, PySem.W.fnOf "_law_in" "_law_in" (defArgs s_law_in) (defBody s_law_in) (defScope s_law_in) .none kV12 dc12 pm12 an12 cd12 ct12, PySem.W.fnOf "_law_edge" "_law_edge" (defArgs s_law_edge) (defBody s_law_edge) (defScope s_law_edge) .none kV13 dc13 pm13 an13 cd13 ct13, PySem.W.fnOf "_law_smooth" "_law_smooth" (defArgs s_law_smooth) (defBody s_law_smooth) (defScope s_law_smooth) .none kV14 dc14 pm14 an14 cd14 ct14, PySem.W.fnOf "_law_leaves" "_law_leaves" (defArgs s_law_leaves) (defBody s_law_leaves) (defScope s_law_leaves) .none kV15 dc15 pm15 an15 cd15 ct15, PySem.W.fnOf "_law_ways" "_law_ways" (defArgs s_law_ways) (defBody s_law_ways) (defScope s_law_ways) .none kV16 dc16 pm16 an16 cd16 ct16, PySem.W.fnOf "_law_map" "_law_map" (defArgs s_law_map) (defBody s_law_map) (defScope s_law_map) .none kV17 dc17 pm17 an17 cd17 ct17, PySem.W.fnOf "_law_spot" "_law_spot" (defArgs s_law_spot) (defBody s_law_spot) (defScope s_law_spot) .none kV18 dc18 pm18 an18 cd18 ct18, PySem.W.fnOf "_law_low" "_law_low" (defArgs s_law_low) (defBody s_law_low) (defScope s_law_low) .none kV19 dc19 pm19 an19 cd19 ct19, PySem.W.fnOf "_law_land" "_law_land" (defArgs s_law_land) (defBody s_law_land) (defScope s_law_land) .none kV20 dc20 pm20 an20 cd20 ct20, PySem.W.fnOf "_law_alike" "_law_alike" (defArgs s_law_alike) (defBody s_law_alike) (defScope s_law_alike) .none kV21 dc21 pm21 an21 cd21 ct21, PySem.W.fnOf "_law_rows" "_law_rows" (defArgs s_law_rows) (defBody s_law_rows) (defScope s_law_rows) .none kV22 dc22 pm22 an22 cd22 ct22, PySem.W.fnOf "law" "law" (defArgs s_law) (defBody s_law) (defScope s_law) .none kV23 dc23 pm23 an23 cd23 ct23].getD n (PySem.W.fnOf "sign_of" "sign_of" (defArgs s_sign_of) (defBody s_sign_of) (defScope s_sign_of) .none kV0 dc0 pm0 an0 cd0 ct0)) :=
    ⟨⟨F0, b0, PySem.W.mg_of X G a0⟩, ⟨F1, b1, PySem.W.mg_of X G a1⟩, ⟨F2, b2, PySem.W.mg_of X G a2⟩, ⟨F3, b3, PySem.W.mg_of X G a3⟩, ⟨F4, b4, PySem.W.mg_of X G a4⟩, ⟨F5, b5, PySem.W.mg_of X G a5⟩, FC5, ⟨F6, b6, PySem.W.mg_of X G a6⟩, ⟨F7, b7, PySem.W.mg_of X G a7⟩, ⟨F8, b8, PySem.W.mg_of X G a8⟩, ⟨F9, b9, PySem.W.mg_of X G a9⟩, ⟨F10, b10, PySem.W.mg_of X G a10⟩, ⟨F11, b11, PySem.W.mg_of X G a11⟩, ⟨F12, b12, PySem.W.mg_of X G a12⟩, ⟨F13, b13, PySem.W.mg_of X G a13⟩, ⟨F14, b14, PySem.W.mg_of X G a14⟩, ⟨F15, b15, PySem.W.mg_of X G a15⟩, ⟨F16, b16, PySem.W.mg_of X G a16⟩, ⟨F17, b17, PySem.W.mg_of X G a17⟩, ⟨F18, b18, PySem.W.mg_of X G a18⟩, ⟨F19, b19, PySem.W.mg_of X G a19⟩, ⟨F20, b20, PySem.W.mg_of X G a20⟩, ⟨F21, b21, PySem.W.mg_of X G a21⟩, ⟨F22, b22, PySem.W.mg_of X G a22⟩, ⟨F23, b23, PySem.W.mg_of X G a23⟩, PySem.W.mg_none_of X G z0, PySem.W.mg_none_of X G z1, PySem.W.mg_none_of X G z2, PySem.W.mg_none_of X G z3, PySem.W.mg_none_of X G z4, PySem.W.mg_none_of X G z5, PySem.W.mg_none_of X G z6, PySem.W.mg_none_of X G z7, PySem.W.mg_none_of X G z8, PySem.W.mg_none_of X G z9⟩
  exact ⟨PySem.W.fnOf "law" "law" (defArgs s_law) (defBody s_law) (defScope s_law) .none kV23 dc23 pm23 an23 cd23 ct23, [pT], fun b hb => by rw [List.mem_singleton.mp hb]; exact ⟨nT, _, cT, List.mem_singleton.mpr rfl, tT⟩, fun s v => .of_eq rfl, fun base hK _ hB => ok_law T hK (hB _ (List.mem_singleton.mpr rfl))⟩
theorem walk {l : PySem.W.OpenLaw} {q : Program} {loose : List Str} {XP : (Str → Option Value) → Heap → Prop} {YP : World → Heap → Prop} {d : DefRec} {K : Params → PySem.W.Frag} (hn : l.most = some 63) (hdf : d.params.defaults = [])
    (hY : ∀ (w : World) (h : Heap), YP w h → (K w.params).In h) (hD : ∀ y, y ∈ ([Str.ofString "by_points"] : List Str) → ∃ e, (PyProof.Rows.recsOf q).find? (fun e => e.name == y) = some e)
    (F : ∀ (w : World) (mg : Str → Option Value) (fa : Addr) (h : Heap), (K w.params).In h → h.Ns mainGlobals mg → mg d.name = some (.ref fa) →
      ∃ (fd : FuncData) (ts : List Addr), (∀ b, b ∈ ts → (K w.params).lookup b = none ∧ ∃ y c, y ∈ ([Str.ofString "by_points"] : List Str) ∧ PySem.W.tabIn (K w.params) y = some (c, b)) ∧ (∀ (s : Shared) (u : Value), BindsTo s fd ⟨[u], []⟩ [("_law_script", u)]) ∧ ∀ base : Heap, (K w.params).In base → base.Ns mainGlobals mg → (∀ b, b ∈ ts → base.BuiltinsAt mg b) → FnOk l.prog w (K w.params) mg base CX0 7 fa fd ["_law_script"] (sp_lawT (K w.params) ts)) :
    PySem.W.WalkO q loose XP YP l.row.toRowW d [] (fun f vs => PySem.call f vs) :=
  L2.walk_ofT (n := 63) (k := 7) (x := "_law_script") (CX := fun _ => CX0) (sp := fun w ts => sp_lawT (K w.params) ts) (ds := [Str.ofString "by_points"]) hn (by decide) hdf ⟨rfl, by decide, by decide⟩ hY hD F (fun _ _ a ns ts hl hO hS => ⟨a, ns, rfl, hS, hl, fun b hb => lamTab_new (hO.tabs b hb), fun _ => rfl⟩) fun _ _ _ _ _ z => z
end Mine
open PySem PySem.W PyProof.Rows
set_option maxRecDepth 100000 in
set_option maxHeartbeats 0 in
theorem PySem.Challenge.cw_acre_k23_fences_of_rows_holds : PySem.Challenge.rw_acre_k23_fences_of_rows.Holds := by
  w_on; o_law; k_head; (case hw => w_witness2)
  k_fill
  refine Mine.walk (l := PySem.Challenge.rw_acre_k23_fences_of_rows) rfl rfl (fun w h Y => PySem.W.km_in_of Y) (fun y hy => by rw [List.mem_singleton.mp hy]; exact ⟨_, rfl⟩) ?F
  case F =>
    intro w mg fa h KX G hmg
    refine' Mine.all_mk KX G hmg ?a0 ?l0 ?c0 ?k0 ?a1 ?l1 ?c1 ?k1 ?a2 ?l2 ?c2 ?k2 ?a3 ?l3 ?c3 ?k3 ?a4 ?l4 ?c4 ?k4 ?a5 ?l5 ?c5 ?k5 ?lT ?vT ?hT ?tT ?nT ?a6 ?l6 ?c6 ?k6 ?a7 ?l7 ?c7 ?k7 ?a8 ?l8 ?c8 ?k8 ?a9 ?l9 ?c9 ?k9 ?a10 ?l10 ?c10 ?k10 ?a11 ?l11 ?c11 ?k11 ?a12 ?l12 ?c12 ?k12 ?a13 ?l13 ?c13 ?k13 ?a14 ?l14 ?c14 ?k14 ?a15 ?l15 ?c15 ?k15 ?a16 ?l16 ?c16 ?k16 ?a17 ?l17 ?c17 ?k17 ?a18 ?l18 ?c18 ?k18 ?a19 ?l19 ?c19 ?k19 ?a20 ?l20 ?c20 ?k20 ?a21 ?l21 ?c21 ?k21 ?a22 ?l22 ?c22 ?k22 ?a23 ?l23 ?c23 ?k23 ?z0 ?z1 ?z2 ?z3 ?z4 ?z5 ?z6 ?z7 ?z8 ?z9
    (case a0 => k_is)
    (case l0 => k_is)
    (case c0 => k_is)
    (case k0 => k_is)
    (case a1 => k_is)
    (case l1 => k_is)
    (case c1 => k_is)
    (case k1 => k_is)
    (case a2 => k_is)
    (case l2 => k_is)
    (case c2 => k_is)
    (case k2 => k_is)
    (case a3 => k_is)
    (case l3 => k_is)
    (case c3 => k_is)
    (case k3 => k_is)
    (case a4 => k_is)
    (case l4 => k_is)
    (case c4 => k_is)
    (case k4 => k_is)
    (case a5 => k_is)
    (case l5 => k_is)
    (case c5 => k_is)
    (case k5 => k_is)
    (case lT => k_is)
    (case vT => rfl)
    (case hT => kernel_rfl)
    (case tT => kernel_rfl)
    (case nT => kernel_rfl)
    (case a6 => k_is)
    (case l6 => k_is)
    (case c6 => k_is)
    (case k6 => k_is)
    (case a7 => k_is)
    (case l7 => k_is)
    (case c7 => k_is)
    (case k7 => k_is)
    (case a8 => k_is)
    (case l8 => k_is)
    (case c8 => k_is)
    (case k8 => k_is)
    (case a9 => k_is)
    (case l9 => k_is)
    (case c9 => k_is)
    (case k9 => k_is)
    (case a10 => k_is)
    (case l10 => k_is)
    (case c10 => k_is)
    (case k10 => k_is)
    (case a11 => k_is)
    (case l11 => k_is)
    (case c11 => k_is)
    (case k11 => k_is)
    (case a12 => k_is)
    (case l12 => k_is)
    (case c12 => k_is)
    (case k12 => k_is)
    (case a13 => k_is)
    (case l13 => k_is)
    (case c13 => k_is)
    (case k13 => k_is)
    (case a14 => k_is)
    (case l14 => k_is)
    (case c14 => k_is)
    (case k14 => k_is)
    (case a15 => k_is)
    (case l15 => k_is)
    (case c15 => k_is)
    (case k15 => k_is)
    (case a16 => k_is)
    (case l16 => k_is)
    (case c16 => k_is)
    (case k16 => k_is)
    (case a17 => k_is)
    (case l17 => k_is)
    (case c17 => k_is)
    (case k17 => k_is)
    (case a18 => k_is)
    (case l18 => k_is)
    (case c18 => k_is)
    (case k18 => k_is)
    (case a19 => k_is)
    (case l19 => k_is)
    (case c19 => k_is)
    (case k19 => k_is)
    (case a20 => k_is)
    (case l20 => k_is)
    (case c20 => k_is)
    (case k20 => k_is)
    (case a21 => k_is)
    (case l21 => k_is)
    (case c21 => k_is)
    (case k21 => k_is)
    (case a22 => k_is)
    (case l22 => k_is)
    (case c22 => k_is)
    (case k22 => k_is)
    (case a23 => k_is)
    (case l23 => k_is)
    (case c23 => k_is)
    (case k23 => k_is)
    (case z0 => k_is)
    (case z1 => k_is)
    (case z2 => k_is)
    (case z3 => k_is)
    (case z4 => k_is)
    (case z5 => k_is)
    (case z6 => k_is)
    (case z7 => k_is)
    (case z8 => k_is)
    (case z9 => k_is)
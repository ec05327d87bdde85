import PyProof.Rows.All
import Wide.All
import OpenK.AllK
import Wide.FinOn
import Lean
import PyProof.EqAt
import PyProof.EqKinds
import PyProof.TupleCall
import PySem.Challenge.RW_acre_k50_corners_told
set_option Elab.async false
set_option linter.all false
set_option maxRecDepth 100000
namespace L2
open PySem PySem.Spec PyProof.Rows
abbrev Key := Sum Int Str
def keyIs : Key → Value → Bool
  | .inl k, v => Value.isInt k v
  | .inr x, v => Value.isStrOf x v
def keyH (w : World) : Key → Int
  | .inl k => hashInt k
  | .inr x => hashStr w x
theorem keyIs_shape : ∀ {k : Key} {v : Value}, keyIs k v = true → (∃ i t, k = Sum.inl i ∧ v = Value.int i t) ∨ (∃ x t, k = Sum.inr x ∧ v = Value.str x t)
  | .inl i, v, h => by
    obtain ⟨t, e⟩ := Value.isInt_shape (k := i) (v := v) h
    exact .inl ⟨i, t, rfl, e⟩
  | .inr x, v, h => by
    obtain ⟨t, e⟩ := Value.isStrOf_shape (x := x) (v := v) h
    exact .inr ⟨x, t, rfl, e⟩
theorem keyIs_int (i : Int) (t : Tok) : keyIs (.inl i) (.int i t) = true := by simp [keyIs, Value.isInt]
theorem keyIs_str (x : Str) (t : Tok) : keyIs (.inr x) (.str x t) = true := by simp [keyIs, Value.isStrOf]
theorem key_ll (a b : Int) : decide ((Sum.inl a : Key) = Sum.inl b) = (a == b) := by
  by_cases e : a = b
  · subst e; simp
  · have h : ¬ (Sum.inl a : Key) = Sum.inl b := fun q => e (Sum.inl.inj q)
    rw [decide_eq_false h]
    exact (beq_eq_false_iff_ne.mpr e).symm
theorem key_rr (a b : Str) : decide ((Sum.inr a : Key) = Sum.inr b) = decide (a = b) := by
  by_cases e : a = b
  · subst e; simp
  · have h : ¬ (Sum.inr a : Key) = Sum.inr b := fun q => e (Sum.inr.inj q)
    rw [decide_eq_false h, decide_eq_false e]
theorem key_lr (a : Int) (b : Str) : decide ((Sum.inl a : Key) = Sum.inr b) = false := decide_eq_false (fun q => nomatch q)
theorem key_rl (a : Str) (b : Int) : decide ((Sum.inr a : Key) = Sum.inl b) = false := decide_eq_false (fun q => nomatch q)
def mixKind (prog : Program) (w : World) : PySem.KeyKind prog w Key where
  is := keyIs
  hash := keyH w
  inj := fun v a b ha hb => by
    rcases keyIs_shape ha with ⟨i, t, rfl, rfl⟩ | ⟨x, t, rfl, rfl⟩
    · rcases keyIs_shape hb with ⟨j, u, rfl, e⟩ | ⟨y, u, rfl, e⟩
      · injection e with e1 _; rw [e1]
      · exact nomatch e
    · rcases keyIs_shape hb with ⟨j, u, rfl, e⟩ | ⟨y, u, rfl, e⟩
      · exact nomatch e
      · injection e with e1 _; rw [e1]
  byValue := fun k v h => by
    rcases keyIs_shape h with ⟨i, t, rfl, rfl⟩ | ⟨x, t, rfl, rfl⟩ <;> rfl
  pyHash := fun hv h => by
    rcases keyIs_shape hv with ⟨i, t, rfl, rfl⟩ | ⟨x, t, rfl, rfl⟩
    · exact wpAny_pyHash_int h
    · exact wpAny_pyHash_str h
  eqBool := fun hu hv h => by
    rcases keyIs_shape hu with ⟨i, t, rfl, rfl⟩ | ⟨x, t, rfl, rfl⟩
    · rcases keyIs_shape hv with ⟨j, u, rfl, rfl⟩ | ⟨y, u, rfl, rfl⟩
      · rw [key_ll] at h; exact wpAny_eqBool_int h
      · rw [key_lr] at h; exact SeqAt.EqAt.int_str i t y u _ _ _ _ h
    · rcases keyIs_shape hv with ⟨j, u, rfl, rfl⟩ | ⟨y, u, rfl, rfl⟩
      · rw [key_rl] at h; exact SeqAt.EqAt.str_int x t j u _ _ _ _ h
      · rw [key_rr] at h; exact wpAny_eqBool_str h
  «strs» := fun k x t v h => by
    rcases keyIs_shape h with ⟨i, u, rfl, e⟩ | ⟨y, u, rfl, e⟩
    · exact nomatch e
    · injection e with e1 _
      subst e1
      cases v <;> rfl
theorem mixKind_int (prog : Program) (w : World) (i : Int) (t : Tok) : (mixKind prog w).is (.inl i) (.int i t) = true := keyIs_int i t
theorem mixKind_str (prog : Program) (w : World) (x : Str) (t : Tok) : (mixKind prog w).is (.inr x) (.str x t) = true := keyIs_str x t
end L2
namespace L2
open PySem PySem.Spec PyProof.Rows
inductive V where
  | non | bl (b : Bool) | int (i : Int) | str (x : Str) | byt (b : Array UInt8) | flt (b : UInt64) | ref (a : Addr) | ty (n : String)
  deriving DecidableEq
def RelV : V → Value → Prop
  | .non, u => u = Value.none
  | .bl b, u => u = Value.bool b
  | .int i, u => ∃ t, u = Value.int i t
  | .str x, u => ∃ t, u = Value.str x t
  | .byt b, u => ∃ t, u = Value.bytes b t
  | .flt b, u => ∃ t, u = Value.float b t
  | .ref a, u => u = Value.ref a
  | .ty n, u => u = Value.type n
abbrev Vals : List V → List Value → Prop := Paired RelV
theorem Vals.length {xs : List V} {us : List Value} (r : Vals xs us) : xs.length = us.length := Paired.length r
theorem Vals.get : ∀ {xs : List V} {us : List Value} {i : Nat} {x : V}, Vals xs us → xs[i]? = some x → ∃ u, us[i]? = some u ∧ RelV x u
  | _, _, _, _, .nil, e => by simp at e
  | _, _, 0, _, .cons r _, e => by simp at e; subst e; exact ⟨_, rfl, r⟩
  | _, _, i + 1, x, .cons _ t, e => by
    obtain ⟨u, h1, h2⟩ := Vals.get (i := i) (x := x) t (by simpa using e)
    exact ⟨u, by simpa using h1, h2⟩
theorem Vals.set {x : V} {u : Value} (r : RelV x u) : ∀ {xs : List V} {us : List Value} (i : Nat), Vals xs us → Vals (xs.set i x) (us.set i u)
  | _, _, _, .nil => .nil
  | _, _, 0, .cons _ t => .cons r t
  | _, _, i + 1, .cons q t => .cons q (Vals.set r i t)
theorem Vals.append : ∀ {xs ys : List V} {us ws : List Value}, Vals xs us → Vals ys ws → Vals (xs ++ ys) (us ++ ws)
  | _, _, _, _, .nil, s => s
  | _, _, _, _, .cons r t, s => .cons r (Vals.append t s)
theorem Vals.take : ∀ {xs : List V} {us : List Value} (n : Nat), Vals xs us → Vals (xs.take n) (us.take n)
  | _, _, 0, _ => .nil
  | _, _, _ + 1, .nil => .nil
  | _, _, n + 1, .cons r t => .cons r (Vals.take n t)
theorem Vals.drop : ∀ {xs : List V} {us : List Value} (n : Nat), Vals xs us → Vals (xs.drop n) (us.drop n)
  | _, _, 0, r => r
  | _, _, _ + 1, .nil => .nil
  | _, _, n + 1, .cons _ t => Vals.drop n t
def RelO : Option V → Option Value → Prop
  | some v, some u => RelV v u
  | none, none => True
  | _, _ => False
def KV {κ : Type} : List (κ × V) → List (κ × Value) → Prop := Paired fun (p : κ × V) (q : κ × Value) => p.1 = q.1 ∧ RelV p.2 q.2
def kV : Key → V
  | .inl i => .int i
  | .inr x => .str x
inductive HO where
  /-- a list -/
  | lst (xs : List V)
  /-- a tuple (never changes) -/
  | tup (xs : List V)
  /-- a dict whose keys are ints and texts; one whose keys are tuples of ints and texts (the empty one is both) -/
  | dK (kvs : List (Key × V)) | dT (kvs : List (List Key × V))
  /-- a set of ints: its members, its size -/
  | set (S : Int → Bool) (n : Nat)
  /-- an instance of the class at C, its dict at dx, its attributes -/
  | ins (C dx : Addr) (fs : List (Str × V))
  /-- the dict of the instance at x -/
  | own (x : Addr)
  /-- the dict of an exception -/
  | xd (fs : List (Str × V))
  /-- a bound method, f of x -/
  | met (f x : Addr)
  /-- a range object lo, lo + 1, .. below hi -/
  | rng (lo hi : Int)
  /-- a thing that is known to the object (the script; a dict while a loop walks it): read, never written while it is so -/
  | frz (o : Obj) (u : HO)
  /-- a code object's table -/
  | tbl (ps : Array Value)
  /-- any other thing, by what is true of its one object (a def of one's own: SetO a S n := HO.ext fun h => ..) -/
  | ext (φ : Heap → Prop)
abbrev Hp := Addr → Option HO
def upd (H : Hp) (a : Addr) (o : HO) : Hp := fun b => if b = a then some o else H b
theorem upd_same {H : Hp} {a : Addr} {o : HO} : upd H a o a = some o := by unfold upd; rw [if_pos rfl]
theorem upd_ne {H : Hp} {a b : Addr} {o : HO} (h : b ≠ a) : upd H a o b = H b := by unfold upd; rw [if_neg h]
theorem upd_upd {H : Hp} {a : Addr} {o u : HO} : upd (upd H a o) a u = upd H a u := by
  funext b; unfold upd; split <;> rfl
theorem ne_of {H : Hp} {a b : Addr} {o u : HO} (h : H a = some o) (h' : H b = some u) (d : o ≠ u) : a ≠ b := by
  intro e; subst e; rw [h] at h'; exact d (Option.some.inj h')
theorem ne_of_none {H : Hp} {a b : Addr} {o : HO} (h : H a = some o) (h' : H b = none) : a ≠ b := by
  intro e; subst e; rw [h] at h'; cases h'
section
variable (P : Program) (w : World)
def ObjOk (H : Hp) (h : Heap) (a : Addr) : HO → Prop
  | .lst xs => xs.length ≤ sizeLine ∧ ∃ (its : List Value) (n : Nat), Vals xs its ∧ h.get? a = some { cls := .type "list", data := .seq its.toArray n }
  | .tup xs => xs.length ≤ sizeLine ∧ ∃ its : List Value, Vals xs its ∧ IsTup h a its.toArray
  | .dK kvs => kvs.length ≤ sizeLine ∧ (a == sysModules) = false ∧ ∃ vs, KV kvs vs ∧ h.DictOf (mixKind P w) a vs
  | .dT kvs => kvs.length ≤ sizeLine ∧ (a == sysModules) = false ∧ ∃ xs : List (List Key × Addr × Value),
      Paired (fun (p : List Key × V) (q : List Key × Addr × Value) => p.1 = q.1 ∧ H q.2.1 = some (.tup (p.1.map kV)) ∧ RelV p.2 q.2.2) kvs xs ∧
      ∃ o es ep, h.get? a = some o ∧ o.ExactDict ∧ o.data = .dict es ep ∧ es.toList = xs.map (entryOfKey (tupleKind (mixKind P w))) ∧ (xs.map (·.1)).Nodup
  | .set S n => h.SetOf (intKind P w) a S n
  | .ins C dx fs => H dx = some (.own a) ∧ fs.length ≤ 1000 ∧ dx ≠ a ∧ h.get? a = some (PySem.W.instObj C dx) ∧
      ∃ mA, h.Ns1 dx mA ∧ (∀ f, RelO (fs.lookup f) (mA f)) ∧ PySem.Within mA (fs.map (·.1))
  | .own _ => ∃ o, h.get? a = some o
  | .xd fs => ∃ mA, h.Ns1 a mA ∧ ∀ f, RelO (fs.lookup f) (mA f)
  | .rng lo hi => ∃ t u v, h.get? a = some { cls := .type "range", data := .fields #[.int lo t, .int hi u, .int 1 v] }
  | .frz o u => h.get? a = some o ∧ ObjOk H h a u
  | .tbl ps => h.get? a = some { cls := .none, data := .fields ps }
  | .met f x => h.get? a = some (PySem.W.methodObj (.ref f) (.ref x))
  | .ext φ => φ h ∧ (∃ o, h.get? a = some o) ∧ ∀ h1 h2 : Heap, φ h1 → (∀ o, h1.get? a = some o → h2.get? a = some o) → φ h2
def HOk (H : Hp) (h : Heap) : Prop := ∀ a o, H a = some o → ObjOk P w H h a o
end
section
variable {P : Program} {w : World} {H H' : Hp} {h h' : Heap} {a : Addr} {o : HO}
theorem ObjOk.lt (x : ObjOk P w H h a o) : a < h.objs.size := by
  cases o with
  | lst xs => obtain ⟨_, _, _, _, e⟩ := x; exact Heap.lt_size e
  | tup xs => obtain ⟨_, _, _, p⟩ := x; exact p.lt
  | dK kvs => obtain ⟨_, _, _, _, o, _, _, e, _⟩ := x; exact Heap.lt_size e
  | dT kvs => obtain ⟨_, _, _, _, o, _, _, e, _⟩ := x; exact Heap.lt_size e
  | set S n => obtain ⟨o, _, _, _, e, _⟩ := x; exact Heap.lt_size e
  | ins C dx fs => obtain ⟨_, _, _, e, _⟩ := x; exact Heap.lt_size e
  | own y => obtain ⟨_, e⟩ := x; exact Heap.lt_size e
  | xd fs => obtain ⟨_, ⟨_, _, _, e, _⟩, _⟩ := x; exact Heap.lt_size e
  | rng lo hi => obtain ⟨_, _, _, e⟩ := x; exact Heap.lt_size e
  | frz ob u => obtain ⟨e, _⟩ := x; exact Heap.lt_size e
  | tbl ps => exact Heap.lt_size (show h.get? a = some _ from x)
  | met f y => exact Heap.lt_size (show h.get? a = some _ from x)
  | ext φ => obtain ⟨_, ⟨_, e⟩, _⟩ := x; exact Heap.lt_size e
theorem Paired.mapP {α β : Type} {F G : α → β → Prop} : ∀ {l₁ : List α} {l₂ : List β}, Paired F l₁ l₂ → (∀ a b, F a b → G a b) → Paired G l₁ l₂
  | _, _, .nil, _ => .nil
  | _, _, .cons r t, f => .cons (f _ _ r) (Paired.mapP t f)
theorem ObjOk.stay (x : ObjOk P w H h a o) (k : ∀ b u, (b = a ∨ H b = some (.own a)) → h.get? b = some u → h'.get? b = some u)
    (ho : ∀ b, H b = some (.own a) → H' b = some (.own a)) (ht : ∀ b xs, H b = some (.tup xs) → H' b = some (.tup xs)) : ObjOk P w H' h' a o := by
  induction o with
  | lst xs => obtain ⟨z, its, n, r, e⟩ := x; exact ⟨z, its, n, r, k _ _ (.inl rfl) e⟩
  | tup xs => obtain ⟨z, its, r, ob, e, c⟩ := x; exact ⟨z, its, r, ob, k _ _ (.inl rfl) e, c⟩
  | dK kvs => obtain ⟨z, y, vs, r, ob, es, ep, e, c⟩ := x; exact ⟨z, y, vs, r, ob, es, ep, k _ _ (.inl rfl) e, c⟩
  | dT kvs =>
    obtain ⟨z, y, xs, r, ob, es, ep, e, c⟩ := x
    exact ⟨z, y, xs, Paired.mapP r fun p q z => ⟨z.1, ht _ _ z.2.1, z.2.2⟩, ob, es, ep, k _ _ (.inl rfl) e, c⟩
  | set S n => obtain ⟨ob, es, ep, t, e, c⟩ := x; exact ⟨ob, es, ep, t, k _ _ (.inl rfl) e, c⟩
  | ins C dx fs =>
    obtain ⟨d, z, ne, e, mA, ⟨od, es, ep, e2, c⟩, r⟩ := x
    exact ⟨ho _ d, z, ne, k _ _ (.inl rfl) e, mA, ⟨od, es, ep, k _ _ (.inr d) e2, c⟩, r⟩
  | own y => obtain ⟨ob, e⟩ := x; exact ⟨ob, k _ _ (.inl rfl) e⟩
  | xd fs => obtain ⟨mA, ⟨od, es, ep, e, c⟩, r⟩ := x; exact ⟨mA, ⟨od, es, ep, k _ _ (.inl rfl) e, c⟩, r⟩
  | rng lo hi => obtain ⟨t, u, v, e⟩ := x; exact ⟨t, u, v, k _ _ (.inl rfl) e⟩
  | frz ob u ih => obtain ⟨e, q⟩ := x; exact ⟨k _ _ (.inl rfl) e, ih q⟩
  | tbl ps =>
    have e : h.get? a = some { cls := .none, data := .fields ps } := x
    show h'.get? a = some { cls := .none, data := .fields ps }
    exact k a _ (.inl rfl) e
  | met f y =>
    have e : h.get? a = some (PySem.W.methodObj (.ref f) (.ref y)) := x
    show h'.get? a = some (PySem.W.methodObj (.ref f) (.ref y))
    exact k a _ (.inl rfl) e
  | ext φ => obtain ⟨p, ⟨o, e⟩, st⟩ := x; exact ⟨st _ _ p fun o q => k _ _ (.inl rfl) q, ⟨o, k _ _ (.inl rfl) e⟩, st⟩
theorem HOk.lt (x : HOk P w H h) (e : H a = some o) : a < h.objs.size := (x a o e).lt
theorem HOk.fresh (x : HOk P w H h) (e : h.objs.size ≤ a) : H a = none := by
  cases q : H a with
  | none => rfl
  | some u => exact absurd (Nat.lt_of_lt_of_le (x.lt q) e) (Nat.lt_irrefl _)
theorem HOk.kept (x : HOk P w H h) (k : ∀ b u, h.get? b = some u → h'.get? b = some u) : HOk P w H h' := fun a o e =>
  (x a o e).stay (fun b u _ q => k b u q) (fun _ q => q) fun _ _ q => q
theorem HOk.laid (x : HOk P w H h) (k : ∀ b u, h.get? b = some u → h'.get? b = some u) (hp : h.objs.size ≤ a) (new : ObjOk P w (upd H a o) h' a o) : HOk P w (upd H a o) h' := fun b u e => by
  have hn := x.fresh hp
  by_cases hb : b = a
  · subst hb; rw [upd_same] at e; cases e; exact new
  · rw [upd_ne hb] at e
    exact (x b u e).stay (fun c v _ q => k c v q) (fun c q => by rw [upd_ne (ne_of_none q hn)]; exact q) fun c xs q => by rw [upd_ne (ne_of_none q hn)]; exact q
end
def Rd (H : Hp) (a : Addr) (u : HO) : Prop := H a = some u ∨ ∃ o, H a = some (.frz o u)
theorem Rd.of {H : Hp} {a : Addr} {u : HO} (h : H a = some u) : Rd H a u := .inl h
theorem Rd.ok {P : Program} {w : World} {H : Hp} {h : Heap} {a : Addr} {u : HO} (r : Rd H a u) (x : HOk P w H h) : ObjOk P w H h a u := by
  rcases r with r | ⟨o, r⟩
  · exact x a u r
  · obtain ⟨_, q⟩ := x a _ r
    exact q
def Mut : Option HO → Prop
  | some (.lst _) => True
  | some (.dK _) => True
  | some (.dT _) => True
  | some (.set _ _) => True
  | some (.ins _ _ _) => True
  | some (.ext _) => True
  | _ => False
section
variable {P : Program} {w : World} {H : Hp} {h h' : Heap} {x e : Addr} {o' : HO}
theorem HOk.write (ok : HOk P w H h) (mu : Mut (H x)) (he : e = x ∨ H e = some (.own x)) (k : ∀ b u, b ≠ e → h.get? b = some u → h'.get? b = some u) (heo : ∃ u, h'.get? e = some u)
    (new : ObjOk P w (upd H x o') h' x o') : HOk P w (upd H x o') h' := fun b u q => by
  have nown : ∀ c y, H c = some (.own y) → c ≠ x := fun c y r z => by subst z; rw [r] at mu; exact mu
  have ntup : ∀ c xs, H c = some (.tup xs) → c ≠ x := fun c xs r z => by subst z; rw [r] at mu; exact mu
  by_cases hb : b = x
  · subst hb; rw [upd_same] at q; cases q; exact new
  · rw [upd_ne hb] at q
    by_cases hbe : b = e
    · have q' : H b = some (.own x) := by
        rcases he with z | z
        · exact absurd (hbe.trans z) hb
        · rw [hbe]; exact z
      rw [q] at q'; cases q'
      obtain ⟨v, hv⟩ := heo
      exact ⟨v, by rw [hbe]; exact hv⟩
    · refine (ok b u q).stay (fun c v hc r => k c v ?_ r) (fun c r => by rw [upd_ne (nown c b r)]; exact r) fun c xs r => by rw [upd_ne (ntup c xs r)]; exact r
      rcases hc with rfl | hc
      · exact hbe
      · rintro rfl
        rcases he with z | z
        · exact nown c b hc z
        · rw [hc] at z; cases z; exact hb rfl
end
structure Un (fs ex : List Addr) (H H' : Hp) (h h' : Heap) : Prop where
  keep : ∀ b o, h.get? b = some o → H b = none → b ∉ fs → b ∉ ex → h'.get? b = some o
  slot : ∀ b o, h.get? b = some o → H b = none → b ∈ fs → b ∉ ex → ∃ sl, h'.get? b = some { o with slots := sl }
  free : ∀ b o, h.get? b = some o → H b = none → b ∉ ex → H' b = none
  there : ∀ b o, h.get? b = some o → b ∉ ex → ∃ o', h'.get? b = some o'
  tups : ∀ b xs, H b = some (.tup xs) → H' b = some (.tup xs)
  frzs : ∀ b o u, H b = some (.frz o u) → H' b = some (.frz o u)
  tbls : ∀ b ps, H b = some (.tbl ps) → ∃ more, H' b = some (.tbl (ps ++ more))
section
variable {fs fs' ex ex' : List Addr} {H H1 H2 : Hp} {h h1 h2 h' : Heap} {a x e : Addr} {o : HO}
theorem Un.any (u : Un fs ex H H1 h h1) {b : Addr} {ob : Obj} (q : h.get? b = some ob) (n : H b = none) (hx : b ∉ ex) : ∃ sl, h1.get? b = some { ob with slots := sl } := by
  by_cases hb : b ∈ fs
  · exact u.slot b ob q n hb hx
  · exact ⟨ob.slots, u.keep b ob q n hb hx⟩
theorem Un.trans (a : Un fs ex H H1 h h1) (b : Un fs ex H1 H2 h1 h2) : Un fs ex H H2 h h2 where
  keep := fun c ob q n hc hx => b.keep c ob (a.keep c ob q n hc hx) (a.free c ob q n hx) hc hx
  slot := fun c ob q n hc hx => by
    obtain ⟨sl, e1⟩ := a.slot c ob q n hc hx
    obtain ⟨sl', e2⟩ := b.slot c _ e1 (a.free c ob q n hx) hc hx
    exact ⟨sl', e2⟩
  free := fun c ob q n hx => by
    obtain ⟨o', e1⟩ := a.there c ob q hx
    exact b.free c o' e1 (a.free c ob q n hx) hx
  there := fun c ob q hx => by
    obtain ⟨o', e1⟩ := a.there c ob q hx
    exact b.there c o' e1 hx
  tups := fun c xs q => b.tups c xs (a.tups c xs q)
  frzs := fun c ob xs q => b.frzs c ob xs (a.frzs c ob xs q)
  tbls := fun c ps q => by
    obtain ⟨m1, e1⟩ := a.tbls c ps q
    obtain ⟨m2, e2⟩ := b.tbls c _ e1
    exact ⟨m1 ++ m2, by rw [e2, Array.append_assoc]⟩
theorem Un.kept (k : ∀ b u, h.get? b = some u → h'.get? b = some u) : Un fs ex H H h h' :=
  ⟨fun b ob q _ _ _ => k b ob q, fun b ob q _ _ _ => ⟨ob.slots, k b ob q⟩, fun _ _ _ n _ => n, fun b ob q _ => ⟨ob, k b ob q⟩, fun _ _ q => q, fun _ _ _ q => q, fun _ ps q => ⟨#[], by rw [q]; simp⟩⟩
theorem Un.refl : Un fs ex H H h h := Un.kept fun _ _ q => q
theorem Un.laid (k : ∀ b u, h.get? b = some u → h'.get? b = some u) (hp : h.objs.size ≤ a) (hn : H a = none) : Un fs ex H (upd H a o) h h' where
  keep := fun b u q _ _ _ => k b u q
  slot := fun b u q _ _ _ => ⟨u.slots, k b u q⟩
  free := fun b u q n _ => by rw [upd_ne (Nat.ne_of_lt (Nat.lt_of_lt_of_le (Heap.lt_size q) hp))]; exact n
  there := fun b u q _ => ⟨u, k b u q⟩
  tups := fun b xs q => by rw [upd_ne (ne_of_none q hn)]; exact q
  frzs := fun b u xs q => by rw [upd_ne (ne_of_none q hn)]; exact q
  tbls := fun b ps q => ⟨#[], by rw [upd_ne (ne_of_none q hn), q]; simp⟩
theorem Un.write (mu : Mut (H x)) (he : e = x ∨ H e = some (.own x)) (k : ∀ b u, b ≠ e → h.get? b = some u → h'.get? b = some u) (heo : ∃ u, h'.get? e = some u) : Un fs ex H (upd H x o) h h' := by
  have hx : ∀ b, H b = none → b ≠ x := fun b n z => by subst z; rw [n] at mu; exact mu
  have hb : ∀ b, H b = none → b ≠ e := fun b n z => by
    subst z
    rcases he with r | r
    · exact hx b n r
    · rw [n] at r; cases r
  have hm : ∀ b u, H b = some u → ¬ Mut (some u) → b ≠ x := fun b u q nm z => by subst z; rw [q] at mu; exact nm mu
  refine ⟨fun b u q n _ _ => k b u (hb b n) q, fun b u q n _ _ => ⟨u.slots, k b u (hb b n) q⟩, fun b u q n _ => by rw [upd_ne (hx b n)]; exact n, fun b u q _ => ?_,
    fun b xs q => by rw [upd_ne (hm b _ q fun z => z)]; exact q, fun b u xs q => by rw [upd_ne (hm b _ q fun z => z)]; exact q, fun b ps q => ⟨#[], by rw [upd_ne (hm b _ q fun z => z), q]; simp⟩⟩
  by_cases hbe : b = e
  · subst hbe; exact heo
  · exact ⟨u, k b u hbe q⟩
theorem Un.mono (u : Un fs ex H H1 h h1) (hs : ∀ b ∈ fs, b ∈ fs') (hx : ∀ b ∈ ex, b ∈ ex') : Un fs' ex' H H1 h h1 :=
  ⟨fun b ob q n hb he => u.keep b ob q n (fun z => hb (hs b z)) fun z => he (hx b z), fun _ _ q n _ he => u.any q n fun z => he (hx _ z), fun b ob q n he => u.free b ob q n fun z => he (hx b z), fun b ob q he => u.there b ob q fun z => he (hx b z), u.tups, u.frzs, u.tbls⟩
end
def trk (h : Heap) (H : Hp) : List Addr := (List.range h.objs.size).filter fun a => (H a).isSome
def hidT (h : Heap) (H : Hp) : Heap := PySem.W.hideAll h (trk h H)
theorem hidT_size (h : Heap) (H : Hp) : (hidT h H).objs.size = h.objs.size := PySem.W.hideAll_size _ _
theorem hidT_get {h : Heap} {H : Hp} {b : Addr} {o : Obj} (e : h.get? b = some o) (n : H b = none) : (hidT h H).get? b = some o :=
  PySem.W.hideAll_get _ e fun hm => by
    have q : (H b).isSome = true := (List.mem_filter.mp hm).2
    rw [n] at q; simp at q
theorem of_hidT {h : Heap} {H : Hp} {b : Addr} {o : Obj} (e : (hidT h H).get? b = some o) : h.get? b = some o ∧ H b = none := by
  have e' : h.get? b = some o := PySem.W.of_hideAll (trk h H) e
  refine ⟨e', ?_⟩
  cases q : H b with
  | none => rfl
  | some x =>
    have hm : b ∈ trk h H := List.mem_filter.mpr ⟨List.mem_range.mpr (Heap.lt_size e'), by simp [q]⟩
    have z : (hidT h H).get? b = none := PySem.W.hideAll_none (trk h H) hm
    rw [z] at e; cases e
def allNews (g h : Heap) (L : Addr) : List (Addr × Obj) := (List.range h.objs.size).filterMap fun a => if a = L ∨ (g.get? a).isSome = true then none else (h.get? a).map fun o => (a, o)
def rest (g h : Heap) (L d : Addr) : List (Addr × Obj) := (allNews g h L).filter fun p => decide (p.1 ≠ d)
end L2
namespace L2
open PySem PySem.Spec PyProof.Rows
structure Mod (K : PySem.W.Frag) (mg : Str → Option Value) (base : Heap) : Prop where
  kin : K.In base
  glob : base.Ns mainGlobals mg
  blt : ∃ mb, base.Ns builtinsNs mb ∧ ∀ x : Str, x ≠ "__name__" → mb x = bootBuiltins x
  nolimit : base.NoLimit
structure Cx where
  prog : Program
  w : World
  K : PySem.W.Frag
  mg : Str → Option Value
  base : Heap
  A : Around
  N : List Str
  s₀ : Shared
  H₀ : Hp
  env : Env
  outer : List Env
  stack : List Env
  ex : List Addr
  fn : Str → Bool
  calm : Bool
  pn : List (Addr × Obj)
  xe : Value → Shared → Prop
def frs (l : List Env) : List Addr := l.filterMap (·.frame)
abbrev Cx.fs (X : Cx) : List Addr := frs X.outer
def Vis (sc : Scope) (x : Str) : Prop := sc.names.lookup x = some .local ∨ sc.names.lookup x = some .cell ∨ sc.names.lookup x = some .free
def Loc (sc : Scope) (x : Str) : Prop := sc.names.lookup x = some .local ∨ sc.names.lookup x = some .cell
def Look (env : Env) (h : Heap) (m : Str → Option Value) (x : Str) (u : Value) : Prop :=
  (env.kindOf x = some .local ∧ m x = some u) ∨ ((env.kindOf x = some .cell ∨ env.kindOf x = some .free) ∧ ∃ c, env.cells.lookup x = some c ∧ h.IsCell c (some u))
structure Cx.Ok (X : Cx) : Prop where
  mod : Mod X.K X.mg X.base
  kind : X.env.scope.kind = .function
  glob : X.env.globals = mainGlobals
  blt : X.env.builtins = builtinsNs
  above : X.s₀.heap.objs.size ≤ X.env.locals
  inj : ∀ x y c, X.env.cells.lookup x = some c → X.env.cells.lookup y = some c → x = y
  has : ∀ x, (X.env.kindOf x = some .cell ∨ X.env.kindOf x = some .free) → ∃ c, X.env.cells.lookup x = some c
  cab : ∀ x c, X.fn x = true → X.env.cells.lookup x = some c → X.s₀.heap.objs.size ≤ c
  hd : X.calm = true → X.A.handled = none
  frames : X.A.frames = some X.stack
  stk : X.stack = X.outer ∨ (X.stack = X.env :: X.outer ∧ X.env.frame = some X.env.locals)
  exf : ∀ b ∈ X.ex, b ≠ X.env.locals ∧ ∀ x c, X.env.cells.lookup x = some c → c ≠ b
  bs : ∀ b o, X.base.get? b = some o → X.s₀.heap.get? b = some o ∧ X.H₀ b = none
  bsz : X.base.objs.size ≤ X.s₀.heap.objs.size
  noex : ∀ b o, X.base.get? b = some o → b ∉ X.ex
  exfs : ∀ b ∈ X.ex, b ∉ X.fs
  funs : X.s₀.heap.FunFrames X.base X.outer
  frf : ∀ b ∈ X.fs, X.H₀ b = none
structure Inv (X : Cx) (pins : List (Addr × Obj)) (σ : List (Option V)) (H : Hp) (s : Shared) : Prop where
  ok : X.Ok
  os : s.os = X.s₀.os
  bare : AllBare s.gens
  base : Un X.fs X.ex X.H₀ H X.s₀.heap s.heap
  loc : ∃ m, s.heap.Ns X.env.locals m ∧ ∀ (i : Nat) (x : Str) (v : V), X.N[i]? = some x → σ[i]? = some (some v) → Vis X.env.scope x → ∃ u, RelV v u ∧ Look X.env s.heap m x u
  cell : ∀ x c, X.env.cells.lookup x = some c → ∃ v, s.heap.IsCell c v
  free : H X.env.locals = none
  freeC : ∀ x c, X.env.cells.lookup x = some c → H c = none
  pin : ∀ p ∈ X.pn ++ pins, s.heap.get? p.1 = some p.2 ∧ H p.1 = none ∧ p.1 ≠ X.env.locals ∧ p.1 ∉ X.fs ∧ ∀ v, p.2.data ≠ .cell v
  hok : HOk X.prog X.w H s.heap
  len : σ.length = X.N.length
section
variable {X : Cx} {pins : List (Addr × Obj)} {σ : List (Option V)} {H H' : Hp} {s : Shared} {h' : Heap}
theorem Cx.Ok.nofr (ok : X.Ok) {b : Addr} {o : Obj} (e : X.base.get? b = some o) : b ∉ X.fs := fun hb => by
  have := (ok.funs.mem hb).1
  rw [e] at this; cases this
theorem Inv.bs (I : Inv X pins σ H s) : ∀ b o, X.base.get? b = some o → s.heap.get? b = some o ∧ H b = none := fun b o e =>
  ⟨I.base.keep b o (I.ok.bs b o e).1 (I.ok.bs b o e).2 (I.ok.nofr e) (I.ok.noex b o e), I.base.free b o (I.ok.bs b o e).1 (I.ok.bs b o e).2 (I.ok.noex b o e)⟩
theorem Inv.bk (I : Inv X pins σ H s) : ∀ b o, X.base.get? b = some o → s.heap.get? b = some o := fun b o e => (I.bs b o e).1
theorem Inv.mod (I : Inv X pins σ H s) : Mod X.K X.mg X.base := I.ok.mod
theorem Inv.kIn (I : Inv X pins σ H s) : X.K.In s.heap := I.ok.mod.kin.keeps I.bk
theorem Inv.nolimit (I : Inv X pins σ H s) : s.heap.NoLimit := I.ok.mod.nolimit.keeps I.bk
theorem Inv.lt (I : Inv X pins σ H s) : X.env.locals < s.heap.objs.size := let ⟨_, hn, _⟩ := I.loc; hn.lt
theorem Inv.sz (I : Inv X pins σ H s) : X.s₀.heap.objs.size ≤ s.heap.objs.size := Nat.le_trans I.ok.above (Nat.le_of_lt I.lt)
theorem Inv.nofs (I : Inv X pins σ H s) {a : Addr} (h : s.heap.objs.size ≤ a) : a ∉ X.fs := fun hb => by
  obtain ⟨_, o, ho, _⟩ := I.ok.funs.mem hb
  exact absurd (Nat.lt_of_lt_of_le (Heap.lt_size ho) (Nat.le_trans I.sz h)) (Nat.lt_irrefl _)
theorem Inv.cne (I : Inv X pins σ H s) : ∀ x c, X.env.cells.lookup x = some c → c ≠ X.env.locals := fun x c e z => by
  obtain ⟨v, o, ho, hd⟩ := I.cell x c e
  obtain ⟨m, ⟨o', es, ep, ho', hd', _⟩, _⟩ := I.loc
  rw [z, ho'] at ho; cases ho; rw [hd'] at hd; cases hd
theorem Inv.funs (I : Inv X pins σ H s) : s.heap.FunFrames X.base X.outer := by
  have all : ∀ (l : List Env), (∀ b ∈ frs l, b ∈ X.fs) → X.s₀.heap.FunFrames X.base l → s.heap.FunFrames X.base l := by
    intro l
    induction l with
    | nil => intro _ _; trivial
    | cons env r ih =>
      intro hs hl
      obtain ⟨hk, ⟨L, o, hf, hn, ho, hd⟩, hr⟩ := hl
      have hL : L ∈ X.fs := hs L (by unfold frs; rw [List.filterMap_cons, hf]; exact List.mem_cons_self)
      obtain ⟨sl, e⟩ := I.base.slot L o ho (I.ok.frf L hL) hL fun z => I.ok.exfs L z hL
      exact ⟨hk, ⟨L, _, hf, hn, e, hd⟩, ih (fun b hb => hs b (by unfold frs; rw [List.filterMap_cons, hf]; exact List.mem_cons_of_mem _ hb)) hr⟩
  exact all X.outer (fun _ hb => hb) I.ok.funs
theorem Inv.stack (I : Inv X pins σ H s) : s.heap.FunFrames X.base X.stack := by
  rcases I.ok.stk with e | ⟨e, hf⟩
  · rw [e]; exact I.funs
  · rw [e]
    obtain ⟨m, hn, _⟩ := I.loc
    refine .cons (by rw [I.ok.kind]; decide) hf hn ?_ I.funs
    exact Heap.get?_none_of_le (Nat.le_trans I.ok.bsz I.ok.above)
theorem Inv.stkSub (I : Inv X pins σ H s) : ∀ b ∈ frs X.stack, b ∈ X.env.locals :: X.fs := fun b hb => by
  rcases I.ok.stk with e | ⟨e, hf⟩
  · rw [e] at hb; exact List.mem_cons_of_mem _ hb
  · rw [e] at hb
    unfold frs at hb
    rw [List.filterMap_cons, hf] at hb
    exact hb
theorem Inv.stkFree (I : Inv X pins σ H s) : ∀ b ∈ frs X.stack, H b = none := fun b hb => by
  rcases List.mem_cons.mp (I.stkSub b hb) with e | hb
  · rw [e]; exact I.free
  · obtain ⟨_, o, ho, _⟩ := I.ok.funs.mem hb
    exact I.base.free b o ho (I.ok.frf b hb) fun z => I.ok.exfs b z hb
theorem Inv.step {g' : Array GenState} {t' : Nat} {d' : Drawn} {ch : List Addr} (I : Inv X pins σ H s)
    (hch : ∀ b ∈ ch, (b ∈ X.ex ∨ X.s₀.heap.objs.size ≤ b) ∧ b ≠ X.env.locals ∧ (∀ x c, X.env.cells.lookup x = some c → c ≠ b) ∧ ∀ p ∈ X.pn ++ pins, p.1 ≠ b)
    (keep : ∀ b o, b ≠ X.env.locals → b ∉ X.fs → b ∉ ch → s.heap.get? b = some o → H b = none → h'.get? b = some o)
    (slot : ∀ b o, b ≠ X.env.locals → b ∈ X.fs → b ∉ ch → s.heap.get? b = some o → H b = none → ∃ sl, h'.get? b = some { o with slots := sl }) (free : ∀ b o, b ∉ ch → s.heap.get? b = some o → H b = none → H' b = none)
    (there : ∀ b o, b ∉ ch → s.heap.get? b = some o → ∃ o', h'.get? b = some o')
    (tups : ∀ b xs, H b = some (.tup xs) → H' b = some (.tup xs)) (frzs : ∀ b o u, H b = some (.frz o u) → H' b = some (.frz o u)) (tbls : ∀ b ps, H b = some (.tbl ps) → ∃ more, H' b = some (.tbl (ps ++ more)))
    (ns : ∀ m, s.heap.Ns X.env.locals m → h'.Ns X.env.locals m) (hok : HOk X.prog X.w H' h') (hg : AllBare g') :
    Inv X pins σ H' { s with heap := h', gens := g', drawn := d', toks := t' } := by
  have neL : ∀ b o, X.s₀.heap.get? b = some o → b ≠ X.env.locals := fun b o e => Nat.ne_of_lt (Nat.lt_of_lt_of_le (Heap.lt_size e) I.ok.above)
  have neC : ∀ b o, X.s₀.heap.get? b = some o → b ∉ X.ex → b ∉ ch := fun b o e hx hb => by
    rcases (hch b hb).1 with z | z
    · exact hx z
    · exact absurd (Nat.lt_of_lt_of_le (Heap.lt_size e) z) (Nat.lt_irrefl _)
  have cellK : ∀ x c, X.env.cells.lookup x = some c → ∀ v, s.heap.IsCell c v → h'.IsCell c v := fun x c e v ⟨o, ho, hd⟩ => by
    have nch : c ∉ ch := fun z => (hch c z).2.2.1 x c e rfl
    by_cases hc : c ∈ X.fs
    · obtain ⟨sl, q⟩ := slot c o (I.cne x c e) hc nch ho (I.freeC x c e)
      exact ⟨_, q, hd⟩
    · exact ⟨o, keep c o (I.cne x c e) hc nch ho (I.freeC x c e), hd⟩
  refine ⟨I.ok, I.os, hg, ⟨fun b o e n hb hx => ?_, fun b o e n hb hx => ?_, fun b o e n hx => ?_, fun b o e hx => ?_, fun b xs e => tups b xs (I.base.tups b xs e), fun b o xs e => frzs b o xs (I.base.frzs b o xs e), fun b ps e => ?_⟩, ?_, fun x c e => ?_, ?_, fun x c e => ?_, fun p hp => ?_, hok, I.len⟩
  · exact keep b o (neL b o e) hb (neC b o e hx) (I.base.keep b o e n hb hx) (I.base.free b o e n hx)
  · obtain ⟨sl, e1⟩ := I.base.slot b o e n hb hx
    obtain ⟨sl', e2⟩ := slot b _ (neL b o e) hb (neC b o e hx) e1 (I.base.free b o e n hx)
    exact ⟨sl', e2⟩
  · obtain ⟨o', e1⟩ := I.base.there b o e hx
    exact free b o' (neC b o e hx) e1 (I.base.free b o e n hx)
  · obtain ⟨o', e1⟩ := I.base.there b o e hx
    exact there b o' (neC b o e hx) e1
  · obtain ⟨m1, e1⟩ := I.base.tbls b ps e
    obtain ⟨m2, e2⟩ := tbls b _ e1
    exact ⟨m1 ++ m2, by rw [e2, Array.append_assoc]⟩
  · obtain ⟨m, hn, hl⟩ := I.loc
    refine ⟨m, ns m hn, fun i x v e1 e2 e3 => ?_⟩
    obtain ⟨u, r, l⟩ := hl i x v e1 e2 e3
    refine ⟨u, r, ?_⟩
    rcases l with l | ⟨k, c, e, z⟩
    · exact .inl l
    · exact .inr ⟨k, c, e, cellK x c e _ z⟩
  · obtain ⟨v, z⟩ := I.cell x c e
    exact ⟨v, cellK x c e v z⟩
  · obtain ⟨m, ⟨o, _, _, ho, _⟩, _⟩ := I.loc
    exact free _ o (fun z => (hch _ z).2.1 rfl) ho I.free
  · obtain ⟨v, o, ho, hd⟩ := I.cell x c e
    exact free c o (fun z => (hch c z).2.2.1 x c e rfl) ho (I.freeC x c e)
  · obtain ⟨e, n, ne, nf, d⟩ := I.pin p hp
    have nch : p.1 ∉ ch := fun z => (hch p.1 z).2.2.2 p hp rfl
    exact ⟨keep p.1 p.2 ne nf nch e n, free p.1 p.2 nch e n, ne, nf, d⟩
theorem Inv.un {t' : Nat} (I : Inv X pins σ H s) (u : Un X.fs [] H H' s.heap h') (hok : HOk X.prog X.w H' h') : Inv X pins σ H' { s with heap := h', toks := t' } := by
  obtain ⟨m, ⟨o, es, ep, ho, r⟩, _⟩ := id I.loc
  obtain ⟨sl, hL⟩ := u.any ho I.free (by simp)
  exact I.step (g' := s.gens) (d' := s.drawn) (ch := []) (fun _ z => nomatch z) (fun b o _ hb _ e n => u.keep b o e n hb (by simp)) (fun b o _ hb _ e n => u.slot b o e n hb (by simp)) (fun b o _ e n => u.free b o e n (by simp)) (fun b o _ e => u.there b o e (by simp)) u.tups u.frzs u.tbls (fun m' hm => by
    obtain ⟨o', es', ep', ho', r'⟩ := hm
    rw [ho] at ho'; cases ho'
    exact ⟨_, es', ep', hL, r'⟩) hok I.bare
theorem Inv.call {g' : Array GenState} {t' : Nat} {d' : Drawn} {ch : List Addr} (I : Inv X pins σ H s) (u : Un (frs X.stack) ch H H' s.heap h') (hok : HOk X.prog X.w H' h') (hg : AllBare g')
    (hch : ∀ b ∈ ch, (b ∈ X.ex ∨ X.s₀.heap.objs.size ≤ b) ∧ b ≠ X.env.locals ∧ (∀ x c, X.env.cells.lookup x = some c → c ≠ b) ∧ ∀ p ∈ X.pn ++ pins, p.1 ≠ b) :
    Inv X pins σ H' { s with heap := h', gens := g', drawn := d', toks := t' } := by
  obtain ⟨m, ⟨o, es, ep, ho, r⟩, _⟩ := id I.loc
  obtain ⟨sl, hL⟩ := u.any ho I.free fun z => (hch _ z).2.1 rfl
  exact I.step (ch := ch) hch (fun b o hL hb hc e n => u.keep b o e n (fun z => (List.mem_cons.mp (I.stkSub b z)).elim hL hb) hc) (fun b o _ _ hc e n => u.any e n hc) (fun b o hc e n => u.free b o e n hc) (fun b o hc e => u.there b o e hc) u.tups u.frzs u.tbls (fun m' hm => by
    obtain ⟨o', es', ep', ho', r'⟩ := hm
    rw [ho] at ho'; cases ho'
    exact ⟨_, es', ep', hL, r'⟩) hok hg
theorem Inv.turned {t' : Nat} {it : Addr} (I : Inv X pins σ H s) (k : ∀ b o, b ≠ it → s.heap.get? b = some o → h'.get? b = some o) (hn : H it = none) (hL : it ≠ X.env.locals)
    (h1 : it ∈ X.ex ∨ X.s₀.heap.objs.size ≤ it) (h2 : ∀ x c, X.env.cells.lookup x = some c → c ≠ it) (h3 : ∀ p ∈ X.pn ++ pins, p.1 ≠ it) : Inv X pins σ H { s with heap := h', toks := t' } := by
  have nit : ∀ b u, H b = some u → b ≠ it := fun b u e z => by rw [z, hn] at e; cases e
  refine I.step (g' := s.gens) (d' := s.drawn) (ch := [it]) (fun b hb => ?_) (fun b o _ _ hc e _ => k b o (fun z => hc (by simp [z])) e) (fun b o _ _ hc e _ => ⟨o.slots, k b o (fun z => hc (by simp [z])) e⟩) (fun _ _ _ _ n => n)
    (fun b o hc e => ⟨o, k b o (fun z => hc (by simp [z])) e⟩) (fun _ _ e => e) (fun _ _ _ e => e) (fun b ps e => ⟨#[], by rw [e]; simp⟩) (fun m hm => ?_) (fun b u e => ?_) I.bare
  · have e : b = it := by simpa using hb
    subst e
    exact ⟨h1, hL, h2, h3⟩
  · obtain ⟨o, es, ep, ho, r⟩ := hm
    exact ⟨o, es, ep, k _ o (Ne.symm hL) ho, r⟩
  · refine (I.hok b u e).stay (fun c v hc q => k c v ?_ q) (fun _ q => q) fun _ _ q => q
    rcases hc with z | z
    · rw [z]; exact nit b u e
    · exact nit c _ z
theorem Inv.tok (I : Inv X pins σ H s) (t : Nat) : Inv X pins σ H { s with toks := t } := I.un (h' := s.heap) (t' := t) Un.refl I.hok
theorem Inv.kept {t' : Nat} (I : Inv X pins σ H s) (k : ∀ b u, s.heap.get? b = some u → h'.get? b = some u) : Inv X pins σ H { s with heap := h', toks := t' } := I.un (Un.kept k) (I.hok.kept k)
theorem Inv.laid {a : Addr} {o : HO} {t' : Nat} (I : Inv X pins σ H s) (k : ∀ b u, s.heap.get? b = some u → h'.get? b = some u) (hp : s.heap.objs.size ≤ a) (new : ObjOk X.prog X.w (upd H a o) h' a o) :
    Inv X pins σ (upd H a o) { s with heap := h', toks := t' } := I.un (Un.laid k hp (I.hok.fresh hp)) (I.hok.laid k hp new)
theorem Inv.write {x e : Addr} {o : HO} {t' : Nat} (I : Inv X pins σ H s) (mu : Mut (H x)) (he : e = x ∨ H e = some (.own x)) (k : ∀ b u, b ≠ e → s.heap.get? b = some u → h'.get? b = some u) (heo : ∃ u, h'.get? e = some u)
    (new : ObjOk X.prog X.w (upd H x o) h' x o) : Inv X pins σ (upd H x o) { s with heap := h', toks := t' } := I.un (Un.write mu he k heo) (I.hok.write mu he k heo new)
theorem Inv.pins_of {pins' : List (Addr × Obj)} (I : Inv X pins σ H s) (h : ∀ p ∈ pins', s.heap.get? p.1 = some p.2 ∧ H p.1 = none ∧ p.1 ≠ X.env.locals ∧ p.1 ∉ X.fs ∧ ∀ v, p.2.data ≠ .cell v) : Inv X pins' σ H s :=
  ⟨I.ok, I.os, I.bare, I.base, I.loc, I.cell, I.free, I.freeC, fun p hp => (List.mem_append.mp hp).elim (fun z => I.pin p (List.mem_append_left _ z)) (h p), I.hok, I.len⟩
theorem nodup_ix {N : List Str} (hN : N.Nodup) {i j : Nat} {x : Str} (a : N[i]? = some x) (b : N[j]? = some x) : i = j := by
  obtain ⟨h1, e1⟩ := List.getElem?_eq_some_iff.mp a
  obtain ⟨h2, e2⟩ := List.getElem?_eq_some_iff.mp b
  exact (List.getElem_inj hN).mp (e1.trans e2.symm)
theorem store_ok2 {M : Model} {A : Around} {E : Value → Shared → Prop} {i : Nat} {x : Str} {v : V} {u : Value} {Q : Unit → Shared → Prop} (I : Inv X pins σ H s) (hN : X.N.Nodup) (hi : X.N[i]? = some x) (hx : Loc X.env.scope x) (r : RelV v u)
    (h : ∀ s', Inv X pins (σ.set i (some v)) H s' → (∃ a, Heap.SameBut a s.heap s'.heap ∧ (a = X.env.locals ∨ X.env.cells.lookup x = some a)) → Q () s') (hf : X.fn x = true ∨ X.env.scope.names.lookup x = some .local := by first | exact .inl rfl | exact .inr rfl | assumption) : wpAny M A (storeName X.env x u) Q E s := by
  obtain ⟨m, hn, hl⟩ := id I.loc
  have hcls : (X.env.scope.kind == .class || (X.env.scope.kind == .module && X.env.locals != X.env.globals)) = false := by rw [I.ok.kind]; rfl
  have hiσ : i < σ.length := by rw [I.len]; exact (List.getElem?_eq_some_iff.mp hi).1
  have cne := I.cne
  have tracked : ∀ {a : Addr} {h' : Heap}, (∃ o, s.heap.get? a = some o ∧ H a = none) → Heap.SameBut a s.heap h' → HOk X.prog X.w H h' := fun {a h'} ha hs b ob e => by
    obtain ⟨_, _, hfree⟩ := ha
    refine (I.hok b ob e).stay (fun c w' hc q => (hs.2 c ?_).trans q) (fun _ q => q) fun _ _ q => q
    rintro rfl
    rcases hc with rfl | hc
    · rw [hfree] at e; cases e
    · rw [hfree] at hc; cases hc
  rcases hx with hk | hk
  · refine wpAny_storeName_local hk hn (fun h' hn' hs => ?_) hcls
    obtain ⟨oL, _, _, hoL, _⟩ := id hn
    refine h _ ⟨I.ok, I.os, I.bare, ⟨fun b o e n hb hx => ?_, fun b o e n hb hx => ?_, I.base.free, fun b o e hx => ?_, I.base.tups, I.base.frzs, I.base.tbls⟩, ⟨_, hn', fun j y v' e1 e2 e3 => ?_⟩, fun y c e => ?_, I.free, I.freeC, fun p hp => ?_, tracked ⟨oL, hoL, I.free⟩ hs, by simpa using I.len⟩ ⟨_, hs, .inl rfl⟩
    · exact (hs.2 b (Nat.ne_of_lt (Nat.lt_of_lt_of_le (Heap.lt_size e) I.ok.above))).trans (I.base.keep b o e n hb hx)
    · obtain ⟨sl, e1⟩ := I.base.slot b o e n hb hx
      exact ⟨sl, (hs.2 b (Nat.ne_of_lt (Nat.lt_of_lt_of_le (Heap.lt_size e) I.ok.above))).trans e1⟩
    · obtain ⟨o', e1⟩ := I.base.there b o e hx
      exact ⟨o', (hs.2 b (Nat.ne_of_lt (Nat.lt_of_lt_of_le (Heap.lt_size e) I.ok.above))).trans e1⟩
    · by_cases hj : j = i
      · subst hj
        rw [hi] at e1; cases e1
        rw [List.getElem?_set_self hiσ] at e2
        cases e2
        exact ⟨u, r, .inl ⟨hk, by simp⟩⟩
      · rw [List.getElem?_set_ne (Ne.symm hj)] at e2
        obtain ⟨u', r', q⟩ := hl j y v' e1 e2 e3
        refine ⟨u', r', ?_⟩
        rcases q with ⟨k, e⟩ | ⟨k, c, e, z⟩
        · refine .inl ⟨k, ?_⟩
          have : y ≠ x := fun e => hj (nodup_ix hN e1 (e ▸ hi))
          simp [this, e]
        · exact .inr ⟨k, c, e, z.sameBut hs (cne y c e)⟩
    · obtain ⟨w', z⟩ := I.cell y c e
      exact ⟨w', z.sameBut hs (cne y c e)⟩
    · obtain ⟨e, n, ne, nf, d⟩ := I.pin p hp
      exact ⟨(hs.2 p.1 ne).trans e, n, ne, nf, d⟩
  · have hfn : X.fn x = true := by
      rcases hf with z | z
      · exact z
      · rw [z] at hk; cases hk
    obtain ⟨c, hc⟩ := I.ok.has x (.inl hk)
    obtain ⟨w', z⟩ := I.cell x c hc
    refine wpAny_storeName_cell I.ok.kind hk hc z (fun h' hc' hs => ?_)
    obtain ⟨oc, hoc, hocd⟩ := id z
    refine h { s with heap := h' } ⟨I.ok, I.os, I.bare, ⟨fun b o e n hb hx => ?_, fun b o e n hb hx => ?_, I.base.free, fun b o e hx => ?_, I.base.tups, I.base.frzs, I.base.tbls⟩, ⟨m, hn.sameBut hs (Ne.symm (cne x c hc)), fun j y v' e1 e2 e3 => ?_⟩, fun y c' e => ?_, I.free, I.freeC, fun p hp => ?_, tracked ⟨oc, hoc, I.freeC x c hc⟩ hs, by simpa using I.len⟩ ⟨c, hs, .inr hc⟩
    · exact (hs.2 b (Nat.ne_of_lt (Nat.lt_of_lt_of_le (Heap.lt_size e) (I.ok.cab x c hfn hc)))).trans (I.base.keep b o e n hb hx)
    · obtain ⟨sl, e1⟩ := I.base.slot b o e n hb hx
      exact ⟨sl, (hs.2 b (Nat.ne_of_lt (Nat.lt_of_lt_of_le (Heap.lt_size e) (I.ok.cab x c hfn hc)))).trans e1⟩
    · obtain ⟨o', e1⟩ := I.base.there b o e hx
      exact ⟨o', (hs.2 b (Nat.ne_of_lt (Nat.lt_of_lt_of_le (Heap.lt_size e) (I.ok.cab x c hfn hc)))).trans e1⟩
    · by_cases hj : j = i
      · subst hj
        rw [hi] at e1; cases e1
        rw [List.getElem?_set_self hiσ] at e2
        cases e2
        exact ⟨u, r, .inr ⟨.inl hk, c, hc, hc'⟩⟩
      · rw [List.getElem?_set_ne (Ne.symm hj)] at e2
        obtain ⟨u', r', q⟩ := hl j y v' e1 e2 e3
        refine ⟨u', r', ?_⟩
        rcases q with q | ⟨k, c', e, z'⟩
        · exact .inl q
        · refine .inr ⟨k, c', e, z'.sameBut hs ?_⟩
          rintro rfl
          exact hj (nodup_ix hN e1 (I.ok.inj _ _ _ e hc ▸ hi))
    · by_cases hcc : c' = c
      · subst hcc; exact ⟨_, hc'⟩
      · obtain ⟨w2, z2⟩ := I.cell y c' e
        exact ⟨w2, z2.sameBut hs hcc⟩
    · obtain ⟨e, n, ne, nf, d⟩ := I.pin p hp
      refine ⟨(hs.2 p.1 ?_).trans e, n, ne, nf, d⟩
      intro q
      rw [q, hoc] at e
      have q' : oc = p.2 := Option.some.inj e
      exact d w' (by rw [← q']; exact hocd)
theorem store_ok {M : Model} {A : Around} {E : Value → Shared → Prop} {i : Nat} {x : Str} {v : V} {u : Value} {Q : Unit → Shared → Prop} (I : Inv X pins σ H s) (hN : X.N.Nodup) (hi : X.N[i]? = some x) (hx : Loc X.env.scope x) (r : RelV v u)
    (h : ∀ s', Inv X pins (σ.set i (some v)) H s' → Q () s') (hf : X.fn x = true ∨ X.env.scope.names.lookup x = some .local := by first | exact .inl rfl | exact .inr rfl | assumption) : wpAny M A (storeName X.env x u) Q E s :=
  store_ok2 I hN hi hx r (fun s' I' _ => h s' I') hf
theorem Inv.call' {s' : Shared} {ch : List Addr} (I : Inv X pins σ H s) (ho : s'.os = s.os) (u : Un (frs X.stack) ch H H' s.heap s'.heap) (hok : HOk X.prog X.w H' s'.heap) (hg : AllBare s'.gens)
    (hch : ∀ b ∈ ch, (b ∈ X.ex ∨ X.s₀.heap.objs.size ≤ b) ∧ b ≠ X.env.locals ∧ (∀ x c, X.env.cells.lookup x = some c → c ≠ b) ∧ ∀ p ∈ X.pn ++ pins, p.1 ≠ b) : Inv X pins σ H' s' := by
  obtain ⟨h', g', d', t', o'⟩ := s'
  have e : o' = s.os := ho
  subst e
  exact I.call (g' := g') (t' := t') (d' := d') u hok hg hch
end
abbrev XK := Value → Option Addr → Hp → Prop
abbrev St := List (Option V)
abbrev VK := V → Hp → Prop
abbrev TE := St → Hp → VK → Prop
abbrev TT := St → Hp → (Bool → Hp → Prop) → Prop
abbrev TA := St → Hp → (List V → Hp → Prop) → Prop
structure Ends where
  nx : St → Hp → Prop
  rt : VK
  bk : St → Hp → Prop := fun _ _ => False
  ct : St → Hp → Prop := fun _ _ => False
abbrev TS := Ends → St → Hp → Prop
def EP (X : Cx) (pins : List (Addr × Obj)) (σ : St) (Q : VK) (u : Value) (s' : Shared) : Prop := ∃ v H', Inv X pins σ H' s' ∧ RelV v u ∧ Q v H'
def TP (X : Cx) (pins : List (Addr × Obj)) (σ : St) (Q : Bool → Hp → Prop) (b : Bool) (s' : Shared) : Prop := ∃ H', Inv X pins σ H' s' ∧ Q b H'
def AP (X : Cx) (pins : List (Addr × Obj)) (σ : St) (Q : List V → Hp → Prop) (us : List Value) (s' : Shared) : Prop := ∃ vs H', Inv X pins σ H' s' ∧ Vals vs us ∧ Q vs H'
def SP (X : Cx) (pins : List (Addr × Obj)) (D : Ends) (f : Flow) (s' : Shared) : Prop :=
  match f with
  | .next => ∃ σ' H', Inv X pins σ' H' s' ∧ D.nx σ' H'
  | .brk => ∃ σ' H', Inv X pins σ' H' s' ∧ D.bk σ' H'
  | .cont => ∃ σ' H', Inv X pins σ' H' s' ∧ D.ct σ' H'
  | .ret u => ∃ v σ' H', Inv X pins σ' H' s' ∧ RelV v u ∧ D.rt v H'
def PE (X : Cx) (e : Expr) (t : TE) : Prop :=
  ∀ (pins : List (Addr × Obj)) (s : Shared) (σ : St) (H : Hp) (Q : VK), Inv X pins σ H s → t σ H Q → wpAny (model X.prog X.w) X.A (eval e X.env) (EP X pins σ Q) X.xe s
def PT (X : Cx) (e : Expr) (t : TT) : Prop :=
  ∀ (pins : List (Addr × Obj)) (s : Shared) (σ : St) (H : Hp) (Q : Bool → Hp → Prop), Inv X pins σ H s → t σ H Q → wpAny (model X.prog X.w) X.A (isTrue e X.env (eval e X.env)) (TP X pins σ Q) X.xe s
def PW (X : Cx) (e : Expr) (t : TT) : Prop :=
  ∀ (whole : Sem Value) (pins : List (Addr × Obj)) (s : Shared) (σ : St) (H : Hp) (Q : Bool → Hp → Prop), Inv X pins σ H s → t σ H Q → wpAny (model X.prog X.w) X.A (isTrue e X.env whole) (TP X pins σ Q) X.xe s
theorem PW.pt {X : Cx} {e : Expr} {t : TT} (h : PW X e t) : PT X e t := h _
def PA (X : Cx) (es : List Expr) (t : TA) : Prop :=
  ∀ (pos : Pos) (pins : List (Addr × Obj)) (s : Shared) (σ : St) (H : Hp) (Q : List V → Hp → Prop), Inv X pins σ H s → t σ H Q → wpAny (model X.prog X.w) X.A (spliced (backTo pos (starEach es X.env))) (AP X pins σ Q) X.xe s
def PS (X : Cx) (st : Stmt) (t : TS) : Prop :=
  ∀ (pins : List (Addr × Obj)) (s : Shared) (σ : St) (H : Hp) (D : Ends), Inv X pins σ H s → t D σ H → wpAny (model X.prog X.w) X.A (exec st X.env) (SP X pins D) X.xe s
def PSs (X : Cx) (st : List Stmt) (t : TS) : Prop :=
  ∀ (pins : List (Addr × Obj)) (s : Shared) (σ : St) (H : Hp) (D : Ends), Inv X pins σ H s → t D σ H → wpAny (model X.prog X.w) X.A (execs st X.env) (SP X pins D) X.xe s
theorem thn {α : Type} {t : Sem α} {Q Q' : α → Shared → Prop} {M : Model} {A : Around} {E : Value → Shared → Prop} {s : Shared} (h : wpAny M A t Q E s) (hQ : ∀ a s, Q a s → Q' a s) : wpAny M A t Q' E s := wpAny_mono h hQ fun _ _ x => x
end L2
namespace L2
open PySem PySem.Spec PyProof.Rows
section
variable {X : Cx}
def tVar (i : Nat) : TE := fun σ H Q => ∃ v, σ[i]? = some (some v) ∧ Q v H
def tC (v : V) : TE := fun _ H Q => Q v H
theorem pe_var {i : Nat} {x : Str} {pos : Pos} (hN : X.N[i]? = some x) (hv : Vis X.env.scope x) (hd : (x == ("__debug__" : Str)) = false := by decide) (hcd : (x == ("__classdict__" : Str)) = false := by decide) : PE X (.Name x pos) (tVar i) := by
  intro pins s σ H Q I h
  obtain ⟨v, e, h⟩ := h
  obtain ⟨m, hn, hl⟩ := I.loc
  obtain ⟨u, r, l⟩ := hl i x v hN e hv
  have fin : EP X pins σ Q u s := ⟨v, H, I, r, h⟩
  rcases l with ⟨hk, hm⟩ | ⟨hk, c, hc, hcell⟩
  · exact wpAny_Name (wpAny_loadName_local I.ok.kind hk hn hm fin) hd
  · rcases hk with hk | hk
    · exact wpAny_Name (wpAny_loadName_cell I.ok.kind hk hc hcell fin) hd
    · exact wpAny_Name (wpAny_loadName_free I.ok.kind hk hc hcell fin hcd) hd
theorem pe_int {i j pos} : PE X (.Constant (.int i) j pos) (tC (.int i)) := fun _ _ _ H _ I h => wpAny_Constant_int ⟨.int i, H, I.tok _, ⟨_, rfl⟩, h⟩
theorem pe_bl {b j pos} : PE X (.Constant (.bool b) j pos) (tC (.bl b)) := fun _ _ _ H _ I h => Constant_bool ⟨.bl b, H, I, rfl, h⟩
def Gl (X : Cx) (x : Str) : Prop := X.env.kindOf x = some .globalImplicit
theorem ld_glob {E : Value → Shared → Prop} {pins : List (Addr × Obj)} {s : Shared} {σ : St} {H : Hp} {x : Str} {u : Value} {pos : Pos} {Q : Value → Shared → Prop} (I : Inv X pins σ H s) (hg : Gl X x) (hm : X.mg x = some u) (h : Q u s)
    (hd : (x == ("__debug__" : Str)) = false := by decide) : wpAny (model X.prog X.w) X.A (eval (.Name x pos) X.env) Q E s :=
  Calls.Name_function_global I.ok.kind hg (Calls.loadGlobal_global (by rw [I.ok.glob]; exact I.mod.glob.keeps I.bk) hm h) hd
theorem ld_blt {E : Value → Shared → Prop} {pins : List (Addr × Obj)} {s : Shared} {σ : St} {H : Hp} {x : Str} {u : Value} {pos : Pos} {Q : Value → Shared → Prop} (I : Inv X pins σ H s) (hg : Gl X x) (hm : X.mg x = none) (hv : bootBuiltins x = some u) (h : Q u s)
    (hn : x ≠ "__name__" := by decide) (hd : (x == ("__debug__" : Str)) = false := by decide) : wpAny (model X.prog X.w) X.A (eval (.Name x pos) X.env) Q E s := by
  obtain ⟨mb, h1, h2⟩ := I.mod.blt
  exact Calls.Name_function_global I.ok.kind hg (Calls.loadGlobal_builtin (by rw [I.ok.glob]; exact I.mod.glob.keeps I.bk) hm (by rw [I.ok.blt]; exact h1.keeps I.bk) ((h2 x hn).trans hv) h) hd
theorem pe_bltn {x : Str} {v : V} {u : Value} {pos : Pos} (hg : Gl X x) (hm : X.mg x = none) (hv : bootBuiltins x = some u) (r : RelV v u) (hn : x ≠ "__name__" := by decide) (hd : (x == ("__debug__" : Str)) = false := by decide) : PE X (.Name x pos) (tC v) :=
  fun _ _ _ H _ I h => ld_blt I hg hm hv ⟨v, H, I, r, h⟩ hn hd
variable {a b : Expr} {ta tb : TE} {pos : Pos}
def PC (X : Cx) (op : CmpOp) (a b : Expr) (t : TE) : Prop :=
  ∀ (pins : List (Addr × Obj)) (s : Shared) (σ : St) (H : Hp) (Q : VK), Inv X pins σ H s → t σ H Q →
    wpAny (model X.prog X.w) X.A (eval a X.env) (fun v s₁ => wpAny (model X.prog X.w) X.A (eval b X.env) (fun u s₂ => wpAny (model X.prog X.w) X.A (compareOp op v u) (EP X pins σ Q) X.xe s₂) X.xe s₁) X.xe s
theorem nobehind (b : Expr) {op : CmpOp} (h : op ≠ .In) (h2 : op ≠ .NotIn) : behindInMarks op b = false := by
  have e1 : (op == CmpOp.In) = false := by cases op <;> first | rfl | exact absurd rfl h
  have e2 : (op == CmpOp.NotIn) = false := by cases op <;> first | rfl | exact absurd rfl h2
  cases b <;> simp [behindInMarks, e1, e2]
def tB (t : TE) : TT := fun σ H Q => t σ H fun x H1 => ∃ c, x = .bl c ∧ Q c H1
theorem pt_cmp {op : CmpOp} {t : TE} (h : PC X op a b t) (h1 : behindInMarks op b = false := by first | exact nobehind _ (by decide) (by decide) | rfl) : PT X (.Compare a [op] [b] pos) (tB t) := by
  intro pins s σ H Q I hw
  refine wpAny_isTrue_Compare1 (thn (h pins s σ H _ I hw) fun v s1 h1 => thn h1 fun u s2 h2 => thn h2 fun c s3 ⟨x, H1, I1, r1, q1⟩ => ?_) h1
  obtain ⟨d, rfl, q⟩ := q1
  cases r1
  exact wpAny_truthy_bool ⟨H1, I1, q⟩
theorem pt_val {e : Expr} {t : TE} (h : PE X e t) (he : ∀ whole, isTrue e X.env whole = (do let v ← whole; standAt e.pos; holding [v] (truthy v)) := by intro _; rfl) : PT X e (tB t) := by
  intro pins s σ H Q I hw
  refine isTrue_plain (thn (h pins s σ H _ I hw) fun v s1 ⟨x, H1, I1, r1, q1⟩ => ?_) (he _)
  obtain ⟨d, rfl, q⟩ := q1
  cases r1
  exact wpAny_truthy_bool ⟨H1, I1, q⟩
variable {tA tB' : TT} {rest : List Expr}
def tAnd (t u : TT) : TT := fun σ H Q => t σ H fun c H1 => if c = true then u σ H1 Q else Q false H1
def tOr (t u : TT) : TT := fun σ H Q => t σ H fun c H1 => if c = true then Q true H1 else u σ H1 Q
def tNot (t : TT) : TT := fun σ H Q => t σ H fun c H1 => Q (!c) H1
theorem pw_or1 (ha : PT X a tA) : PW X (.BoolOp .Or [a] pos) tA := by
  intro wh pins s σ H Q I h
  refine isTrue_or (thn (ha pins s σ H Q I h) fun c s1 e => ?_)
  cases c with
  | false => exact isTrue_or_nil e
  | true => exact e
theorem pw_or (ha : PT X a tA) (hb : PW X (.BoolOp .Or (b :: rest) pos) tB') : PW X (.BoolOp .Or (a :: b :: rest) pos) (tOr tA tB') := by
  intro wh pins s σ H Q I h
  refine isTrue_or (thn (ha pins s σ H _ I h) fun c s1 ⟨H1, I1, q1⟩ => ?_)
  cases c with
  | true => exact ⟨H1, I1, q1⟩
  | false => exact hb wh pins s1 σ H1 Q I1 q1
theorem pt_not (ha : PT X a tA) : PT X (.UnaryOp .Not a pos) (tNot tA) := by
  intro pins s σ H Q I h
  exact isTrue_not (ha pins s σ H (fun c H1 => Q (!c) H1) I h)
def tAndV (ta tb : TE) : TE := fun σ H Q => ta σ H fun x H1 => ∃ c, x = .bl c ∧ if c = true then tb σ H1 Q else Q (.bl false) H1
def tOrV (ta tb : TE) : TE := fun σ H Q => ta σ H fun x H1 => ∃ c, x = .bl c ∧ if c = true then Q (.bl true) H1 else tb σ H1 Q
def tNotV (ta : TE) : TE := fun σ H Q => ta σ H fun x H1 => ∃ c, x = .bl c ∧ Q (.bl (!c)) H1
theorem pe_one {op} {t : TE} (h : PE X a t) : PE X (.BoolOp op [a] pos) t := fun pins s σ H Q I hw => BoolOp_one (h pins s σ H Q I hw)
theorem pe_and (ha : PE X a ta) (hb : PE X (.BoolOp .And (b :: rest) pos) tb) : PE X (.BoolOp .And (a :: b :: rest) pos) (tAndV ta tb) := by
  intro pins s σ H Q I h
  refine BoolOp_and (thn (ha pins s σ H _ I h) fun v s1 ⟨x, H1, I1, r1, q1⟩ => ?_)
  obtain ⟨c, rfl, q1⟩ := q1
  cases r1
  refine wpAny_truthy_bool ?_
  cases c with
  | true => exact hb pins s1 σ H1 Q I1 q1
  | false => exact ⟨.bl false, H1, I1, rfl, q1⟩
def tIf (t : TT) (ta tb : TE) : TE := fun σ H Q => t σ H fun c H1 => if c = true then ta σ H1 Q else tb σ H1 Q
end
end L2
namespace L2
open PySem PySem.Spec PyProof.Rows
def SqL (K : PySem.W.Frag) (H : Hp) (a : Addr) (xs : List V) : Prop :=
  Rd H a (.lst xs) ∨
    ∃ (o : Obj) (its : Array Value) (n : Nat), K.lookup a = some o ∧ o.cls = .type "list" ∧ o.dict = none ∧ o.data = .seq its n ∧ its.size ≤ sizeLine ∧ Vals xs its.toList
def SqT (K : PySem.W.Frag) (H : Hp) (a : Addr) (xs : List V) : Prop :=
  Rd H a (.tup xs) ∨
    ∃ (o : Obj) (its : Array Value) (n : Nat), K.lookup a = some o ∧ o.cls = .type "tuple" ∧ o.data = .seq its n ∧ its.size ≤ sizeLine ∧ Vals xs its.toList
def absV : Value → Option V
  | .none => some .non
  | .bool b => some (.bl b)
  | .int i _ => some (.int i)
  | .str x _ => some (.str x)
  | .bytes b _ => some (.byt b)
  | .float b _ => some (.flt b)
  | .ref a => some (.ref a)
  | .type n => some (.ty n)
  | _ => none
theorem RelV.abs {x : V} {u : Value} (r : RelV x u) : absV u = some x := by
  cases x with
  | non => cases r; rfl
  | bl _ => cases r; rfl
  | int _ => obtain ⟨t, rfl⟩ := r; rfl
  | str _ => obtain ⟨t, rfl⟩ := r; rfl
  | byt _ => obtain ⟨t, rfl⟩ := r; rfl
  | flt _ => obtain ⟨t, rfl⟩ := r; rfl
  | ref _ => cases r; rfl
  | ty _ => cases r; rfl
theorem RelV.inj {x y : V} {u : Value} (r : RelV x u) (q : RelV y u) : x = y := Option.some.inj (r.abs.symm.trans q.abs)
theorem Vals.inj : ∀ {xs ys : List V} {us : List Value}, Vals xs us → Vals ys us → xs = ys
  | _, _, _, .nil, .nil => rfl
  | _, _, _, .cons r t, .cons r' t' => by rw [r.inj r', Vals.inj t t']
section
variable {X : Cx} {pins : List (Addr × Obj)} {σ : St} {H : Hp} {s : Shared} {a : Addr} {xs ys : List V}
theorem SqL.of {K : PySem.W.Frag} (h : H a = some (.lst xs)) : SqL K H a xs := .inl (.inl h)
theorem SqT.of {K : PySem.W.Frag} (h : H a = some (.tup xs)) : SqT K H a xs := .inl (.inl h)
theorem Inv.list (I : Inv X pins σ H s) (h : SqL X.K H a xs) : ∃ its : List Value, Vals xs its ∧ PlainL s.heap a its.toArray ∧ xs.length ≤ sizeLine := by
  rcases h with h | ⟨o, its, n, hk, hc, hd, hs, hz, r⟩
  · obtain ⟨z, its, n, r, e⟩ := h.ok I.hok
    exact ⟨its, r, ⟨_, n, e, rfl, rfl, rfl⟩, z⟩
  · refine ⟨its.toList, r, ⟨o, n, I.kIn a o hk, hc, hd, by simpa using hs⟩, ?_⟩
    have e := r.length
    simp only [Array.length_toList] at e
    omega
theorem Inv.tuple (I : Inv X pins σ H s) (h : SqT X.K H a xs) : ∃ its : List Value, Vals xs its ∧ IsTup s.heap a its.toArray ∧ xs.length ≤ sizeLine := by
  rcases h with h | ⟨o, its, n, hk, hc, hs, hz, r⟩
  · obtain ⟨z, its, r, p⟩ := h.ok I.hok
    exact ⟨its, r, p, z⟩
  · refine ⟨its.toList, r, ⟨o, I.kIn a o hk, hc, n, by simpa using hs⟩, ?_⟩
    have e := r.length
    simp only [Array.length_toList] at e
    omega
theorem Inv.list_inj (I : Inv X pins σ H s) (h : SqL X.K H a xs) (h' : SqL X.K H a ys) : xs = ys := by
  obtain ⟨its, r, ⟨o, n, e, _, _, d⟩, _⟩ := I.list h
  obtain ⟨its', r', ⟨o', n', e', _, _, d'⟩, _⟩ := I.list h'
  rw [e] at e'; cases e'
  rw [d] at d'
  injection d' with d1 _
  have : its = its' := by simpa using congrArg Array.toList d1
  subst this
  exact r.inj r'
end
abbrev Cx.wish (X : Cx) (E : Value → Shared → Prop) : Cx := { X with xe := E }
abbrev Cx.nox (X : Cx) : Cx := X.wish fun _ _ => False
theorem Cx.Ok.wish {X : Cx} (ok : X.Ok) (E : Value → Shared → Prop) : (X.wish E).Ok :=
  ⟨ok.mod, ok.kind, ok.glob, ok.blt, ok.above, ok.inj, ok.has, ok.cab, ok.hd, ok.frames, ok.stk, ok.exf, ok.bs, ok.bsz, ok.noex, ok.exfs, ok.funs, ok.frf⟩
theorem Cx.Ok.unwish {X : Cx} {E : Value → Shared → Prop} (ok : (X.wish E).Ok) : X.Ok :=
  ⟨ok.mod, ok.kind, ok.glob, ok.blt, ok.above, ok.inj, ok.has, ok.cab, ok.hd, ok.frames, ok.stk, ok.exf, ok.bs, ok.bsz, ok.noex, ok.exfs, ok.funs, ok.frf⟩
section
variable {X : Cx} {pins : List (Addr × Obj)} {σ : St} {H : Hp} {s : Shared} {E : Value → Shared → Prop}
theorem Inv.wish (I : Inv X pins σ H s) (E : Value → Shared → Prop) : Inv (X.wish E) pins σ H s := ⟨I.ok.wish E, I.os, I.bare, I.base, I.loc, I.cell, I.free, I.freeC, I.pin, I.hok, I.len⟩
theorem Inv.unwish (I : Inv (X.wish E) pins σ H s) : Inv X pins σ H s := ⟨I.ok.unwish, I.os, I.bare, I.base, I.loc, I.cell, I.free, I.freeC, I.pin, I.hok, I.len⟩
theorem SP.unwish {D : Ends} {f : Flow} {s' : Shared} (h : SP (X.wish E) pins D f s') : SP X pins D f s' := by
  cases f with
  | next => obtain ⟨σ', H', I, q⟩ := h; exact ⟨σ', H', I.unwish, q⟩
  | brk => obtain ⟨σ', H', I, q⟩ := h; exact ⟨σ', H', I.unwish, q⟩
  | cont => obtain ⟨σ', H', I, q⟩ := h; exact ⟨σ', H', I.unwish, q⟩
  | ret u => obtain ⟨v, σ', H', I, r, q⟩ := h; exact ⟨v, σ', H', I.unwish, r, q⟩
theorem PE.nox {e : Expr} {t : TE} (h : PE X.nox e t) : PE X e t := fun pins s σ H Q I hw =>
  wpAny_mono (h pins s σ H Q (I.wish _) hw) (fun _ _ ⟨v, H', I', r, q⟩ => ⟨v, H', I'.unwish, r, q⟩) fun _ _ z => False.elim z
theorem PT.nox {e : Expr} {t : TT} (h : PT X.nox e t) : PT X e t := fun pins s σ H Q I hw =>
  wpAny_mono (h pins s σ H Q (I.wish _) hw) (fun _ _ ⟨H', I', q⟩ => ⟨H', I'.unwish, q⟩) fun _ _ z => False.elim z
theorem PSs.nox {st : List Stmt} {t : TS} (h : PSs X.nox st t) : PSs X st t := fun pins s σ H D I hw =>
  wpAny_mono (h pins s σ H D (I.wish _) hw) (fun _ _ q => q.unwish) fun _ _ z => False.elim z
end
section
variable {X : Cx} {st : Stmt} {rest : List Stmt} {t u : TS} {e : Expr} {te : TE} {pos : Pos}
def tNext : TS := fun D σ H => D.nx σ H
def tSeq (t u : TS) : TS := fun D σ H => t { D with nx := u D } σ H
theorem pss_nil : PSs X [] tNext := fun _ _ σ H _ I h => wpAny_execs_nil ⟨σ, H, I, h⟩
theorem pss_cons (h1 : PS X st t) (h2 : PSs X rest u) : PSs X (st :: rest) (tSeq t u) := by
  intro pins s σ H D I h
  refine wpAny_execs_cons (thn (h1 pins s σ H { D with nx := u D } I h) fun f s1 q => ?_)
  cases f with
  | next =>
    obtain ⟨σ', H', I', q⟩ := q
    exact h2 pins s1 σ' H' D I' q
  | ret v => exact q
  | brk => exact q
  | cont => exact q
theorem pss_one (h1 : PS X st t) : PSs X [st] t := by
  intro pins s σ H D I h
  refine wpAny_execs_cons (thn (h1 pins s σ H D I h) fun f s1 q => ?_)
  cases f with
  | next => exact wpAny_execs_nil q
  | ret v => exact q
  | brk => exact q
  | cont => exact q
theorem Inv.quiet {pins : List (Addr × Obj)} {σ : St} {H : Hp} {s : Shared} (I : Inv X pins σ H s) : interactive X.env = false := by simp [interactive, I.ok.kind]
def tDrop (te : TE) : TS := fun D σ H => te σ H fun _ H1 => D.nx σ H1
theorem ps_expr (he : PE X e te) (hs : swapsWith e none pos.line X.env = pure false := by rfl) : PS X (.Expr e pos) (tDrop te) := by
  intro pins s σ H D I h
  exact wpAny_Expr_any (thn (he pins s σ H _ I h) fun v s1 ⟨x, H1, I1, r1, q1⟩ => ⟨σ, H1, I1, q1⟩) I.quiet hs
def tRet (te : TE) : TS := fun D σ H => te σ H D.rt
theorem ps_ret (he : PE X e te) : PS X (.Return (some e) pos) (tRet te) := by
  intro pins s σ H D I h
  exact wpAny_Return_some (thn (he pins s σ H _ I h) fun v s1 ⟨x, H1, I1, r1, q1⟩ => ⟨x, σ, H1, I1, r1, q1⟩)
def tRetN : TS := fun D _ H => D.rt .non H
def tIfS (c : TT) (t u : TS) : TS := fun D σ H => c σ H fun b H1 => if b = true then t D σ H1 else u D σ H1
theorem ps_if {c : Expr} {a b : List Stmt} {tc : TT} (hc : PT X c tc) (ha : PSs X a t) (hb : PSs X b u) : PS X (.If c a b pos) (tIfS tc t u) := by
  intro pins s σ H D I h
  refine wpAny_If (thn (hc pins s σ H _ I h) fun d s1 ⟨H1, I1, q1⟩ => ?_)
  cases d with
  | true => exact ha pins s1 σ H1 D I1 q1
  | false => exact hb pins s1 σ H1 D I1 q1
end
abbrev TG := V → St → Hp → (St → Hp → Prop) → Prop
abbrev TGs := List V → St → Hp → (St → Hp → Prop) → Prop
def PG (X : Cx) (target : Expr) (t : TG) : Prop :=
  ∀ (pins : List (Addr × Obj)) (s : Shared) (σ : St) (H : Hp) (v : V) (u : Value) (Q : St → Hp → Prop), Inv X pins σ H s → RelV v u → t v σ H Q →
    wpAny (model X.prog X.w) X.A (assign target X.env u) (fun _ s' => ∃ σ' H', Inv X pins σ' H' s' ∧ Q σ' H') X.xe s
def PGs (X : Cx) (ts : List Expr) (t : TGs) : Prop :=
  ∀ (pins : List (Addr × Obj)) (s : Shared) (σ : St) (H : Hp) (vs : List V) (us : List Value) (Q : St → Hp → Prop), Inv X pins σ H s → Vals vs us → t vs σ H Q →
    wpAny (model X.prog X.w) X.A (assignInOrder ((assignEach ts X.env).map (·.2)) us) (fun _ s' => ∃ σ' H', Inv X pins σ' H' s' ∧ Q σ' H') X.xe s
abbrev TSet := V → V → V → Hp → (Hp → Prop) → Prop
section
variable {X : Cx} {pos : Pos}
def gName (i : Nat) : TG := fun v σ H Q => Q (σ.set i (some v)) H
theorem pg_name {i : Nat} {x : Str} (hN : X.N.Nodup) (hi : X.N[i]? = some x) (hx : Loc X.env.scope x) (hf : X.fn x = true ∨ X.env.scope.names.lookup x = some .local := by first | exact .inl rfl | exact .inr rfl | assumption) : PG X (.Name x pos) (gName i) := by
  intro pins s σ H v u Q I r h
  exact wpAny_assign_Name (store_ok I hN hi hx r (fun s' I' => ⟨_, H, I', h⟩) hf)
def gNil : TGs := fun vs σ H Q => vs = [] ∧ Q σ H
def gCons (t : TG) (u : TGs) : TGs := fun vs σ H Q => ∃ v r, vs = v :: r ∧ t v σ H fun σ' H' => u r σ' H' Q
theorem pgs_nil : PGs X [] gNil := by
  intro pins s σ H vs us Q I r h
  obtain ⟨e, h⟩ := h
  subst e
  cases r
  exact assignInOrder_nil ⟨σ, H, I, h⟩
theorem pgs_cons {e : Expr} {es : List Expr} {t : TG} {u : TGs} (h1 : PG X e t) (h2 : PGs X es u)
    (hs : (assignEach (e :: es) X.env).map (·.2) = assign e X.env :: (assignEach es X.env).map (·.2) := by rfl) : PGs X (e :: es) (gCons t u) := by
  intro pins s σ H vs us Q I r h
  obtain ⟨v, vr, e1, h⟩ := h
  subst e1
  cases r with
  | cons r rr =>
    rw [hs]
    refine assignInOrder_cons (thn (h1 pins s σ H _ _ _ I r h) fun _ s1 ⟨σ1, H1, I1, q1⟩ => ?_)
    exact h2 pins s1 σ1 H1 _ _ Q I1 rr q1
def gTup (K : PySem.W.Frag) (n : Nat) (t : TGs) : TG := fun v σ H Q => ∃ a xs, v = .ref a ∧ SqT K H a xs ∧ xs.length = n ∧ t xs σ H Q
theorem pg_tup {es : List Expr} {k : Nat} {t : TGs} {n : Nat} (hc : X.calm = true) (h : PGs X es t)
    (hn : (assignEach es X.env).length = n := by rfl) (hst : (assignEach es X.env).findIdx? (·.1) = none := by rfl) : PG X (.Tuple es k pos) (gTup X.K n t) := by
  intro pins s σ H v u Q I r hw
  obtain ⟨a, xs, e1, hq, hl, hw⟩ := hw
  subst e1
  cases r
  obtain ⟨its, rv, ht, hz⟩ := I.tuple hq
  refine assign_Tuple_tuple (I.ok.hd hc) ht (by simp [hn, ← hl, rv.length]) hst fun h' hx => ?_
  have I1 : Inv X pins σ H { s with heap := h' } := I.kept (t' := s.toks) fun b o e => hx b o (Nat.ne_of_lt (Heap.lt_size e)) e
  exact h pins _ σ H xs _ Q I1 (by simpa using rv) hw
def gSub (to ti : TE) (t : TSet) : TG := fun v σ H Q => to σ H fun o H1 => ti σ H1 fun i H2 => t o i v H2 fun H3 => Q σ H3
def tAsg (te : TE) (g : TG) : TS := fun D σ H => te σ H fun x H1 => g x σ H1 D.nx
theorem ps_set {i : Nat} {x : Str} {e : Expr} {te : TE} {pos' : Pos} (hN : X.N.Nodup) (hi : X.N[i]? = some x) (hx : Loc X.env.scope x) (he : PE X e te) (hs : swapsWith e (some (.Name x pos')) pos.line X.env = pure false := by rfl) (hf : X.fn x = true ∨ X.env.scope.names.lookup x = some .local := by first | exact .inl rfl | exact .inr rfl | assumption) :
    PS X (.Assign [.Name x pos'] e pos) (tAsg te (gName i)) := by
  intro pins s σ H D I h
  refine wpAny_Assign_Name (thn (he pins s σ H _ I h) fun v s1 ⟨y, H1, I1, r1, q1⟩ => ?_) hs
  exact store_ok I1 hN hi hx r1 (fun s2 I2 => ⟨_, H1, I2, q1⟩) hf
def tPar (i j : Nat) (ta : TA) : TS := fun D σ H => ta σ H fun vs H1 => ∃ v w, vs = [v, w] ∧ D.nx ((σ.set i (some v)).set j (some w)) H1
theorem ps_par {i j : Nat} {x y : Str} {a b : Expr} {ta : TA} {px py pt : Pos} {kt k2 pt2} (hc : X.calm = true) (hN : X.N.Nodup) (hi : X.N[i]? = some x) (hj : X.N[j]? = some y) (hij : i ≠ j)
    (hx : X.env.scope.names.lookup x = some .local) (hy : X.env.scope.names.lookup y = some .local) (ha : PA X [a, b] ta)
    (hw : swappedStores [.Tuple [.Name x px, .Name y py] kt pt] (.Tuple [a, b] k2 pt2) X.env = pure (some [x, y]))
    (hs : swapsWithSole [.Tuple [.Name x px, .Name y py] kt pt] (.Tuple [a, b] k2 pt2) pos.line X.env = pure false := by rfl) :
    PS X (.Assign [.Tuple [.Name x px, .Name y py] kt pt] (.Tuple [a, b] k2 pt2) pos) (tPar i j ta) := by
  intro pins s σ H D I h
  rw [exec_Assign_arm]
  refine wpAny_bind (wpAny_standAt ?_)
  rw [hs]
  refine wpAny_bind (wpAny_pure ?_)
  rw [if_neg (by decide)]
  refine wpAny_bind (Tuple_ (thn (ha _ pins s σ H _ I h) fun us s1 ⟨vs, H1, I1, r1, q1⟩ => ?_))
  obtain ⟨v, w, e1, q1⟩ := q1
  subst e1
  obtain ⟨u1, u2, rfl, rv, rw'⟩ : ∃ u1 u2, us = [u1, u2] ∧ RelV v u1 ∧ RelV w u2 := by
    cases r1 with
    | cons p q =>
      cases q with
      | cons p' q' =>
        cases q'
        exact ⟨_, _, rfl, p, p'⟩
  refine wpAny_newObj_type ?_ (by show 2 ≤ sizeLine; decide)
  have I2 : Inv X pins σ H1 { s1 with heap := s1.heap.push { cls := .type "tuple", data := .seq [u1, u2].toArray } } := I1.kept (t' := s1.toks) fun b o e => Heap.get?_push_of_some _ e
  rw [hw]
  refine wpAny_bind (wpAny_pure ?_)
  show wpAny (model X.prog X.w) X.A (do rule "assign.swapped-stores"; let items ← unpackItems (.ref s1.heap.objs.size) 2 none; assignInOrder [fun v => bindName X.env y v, fun v => bindName X.env x v] items.reverse; pure Flow.next) _ _ _
  refine wpAny_bind (wpAny_rule (wpAny_bind (unpackItems_tuple (items := #[u1, u2]) (I.ok.hd hc) (IsTup.new s1.heap _) fun h' hx' => ?_)))
  have I3 := I2.kept (h' := h') (t' := s1.toks) fun b o e => hx' b o (Nat.ne_of_lt (Heap.lt_size e)) e
  show wpAny _ _ (assignInOrder [fun v => bindName X.env y v, fun v => bindName X.env x v] [u2, u1] >>= fun _ => pure Flow.next) _ _ _
  refine wpAny_bind (assignInOrder_cons (wpAny_bindName (store_ok I3 hN hj (.inl hy) rw' (fun s2 I4 => ?_) (.inr hy))))
  refine assignInOrder_cons (wpAny_bindName (store_ok I4 hN hi (.inl hx) rv (fun s3 I5 => assignInOrder_nil (wpAny_pure ?_)) (.inr hx)))
  rw [List.set_comm _ _ (Ne.symm hij)] at I5
  exact ⟨_, H1, I5, q1⟩
end
section
variable {X : Cx} {pos : Pos}
def tWhile (c : TT) (tb : TS) : TS := fun D σ H => ∃ W : Nat → St → Hp → Prop, (∃ m, W m σ H) ∧ ∀ m σ H, W m σ H →
  c σ H fun b H1 => if b = true then ∃ N : St → Hp → Prop, (∀ σ' H', N σ' H' → ∃ m', m' < m ∧ W m' σ' H') ∧ tb { D with nx := N, ct := N, bk := D.nx } σ H1 else D.nx σ H1
theorem ps_while {c : Expr} {body : List Stmt} {tc : TT} {tb : TS} (hp : PassesOwn (model X.prog X.w) X.A X.env X.xe) (hc : PT X c tc) (hb : PSs X body tb) : PS X (.While c body [] pos) (tWhile tc tb) := by
  intro pins s σ H D I h
  obtain ⟨W, ⟨m0, w0⟩, turn⟩ := h
  refine wpAny_While (codeAny_whileLoop (fun n s' => ∃ σ' H', Inv X pins σ' H' s' ∧ W n σ' H') ?_ m0 ⟨σ, H, I, w0⟩)
  rintro n s1 ⟨σ1, H1, I1, w1⟩
  refine wpAny_passesOwn hp (thn (hc pins s1 σ1 H1 _ I1 (turn n σ1 H1 w1)) fun b s2 ⟨H2, I2, q2⟩ => ?_)
  cases b with
  | true =>
    obtain ⟨N, hN, q2⟩ := q2
    rw [if_pos rfl]
    refine wpAny_passesOwn hp (thn (hb pins s2 σ1 H2 _ I2 q2) fun f s3 q3 => ?_)
    cases f with
    | next =>
      obtain ⟨σ3, H3, I3, n3⟩ := q3
      obtain ⟨m', hm, w3⟩ := hN σ3 H3 n3
      exact ⟨m', hm, σ3, H3, I3, w3⟩
    | cont =>
      obtain ⟨σ3, H3, I3, n3⟩ := q3
      obtain ⟨m', hm, w3⟩ := hN σ3 H3 n3
      exact ⟨m', hm, σ3, H3, I3, w3⟩
    | brk => exact q3
    | ret v => exact q3
  | false =>
    rw [if_neg Bool.false_ne_true]
    exact wpAny_execs_nil ⟨σ1, H2, I2, q2⟩
end
structure It where
  go : Nat → Hp → Prop
  yld : Nat → Hp → V → Hp → Prop
  stop : Nat → Hp → Prop
def FpOk (X : Cx) (pins : List (Addr × Obj)) (H : Hp) (b : Addr) : Prop :=
  H b = none ∧ b ≠ X.env.locals ∧ b ∉ X.fs ∧ (b ∈ X.ex ∨ X.s₀.heap.objs.size ≤ b) ∧ (∀ x c, X.env.cells.lookup x = some c → c ≠ b) ∧ ∀ p ∈ X.pn ++ pins, p.1 ≠ b
theorem Inv.fpOk {X : Cx} {pins : List (Addr × Obj)} {σ : St} {H H' : Hp} {s : Shared} {b : Addr} (I : Inv X pins σ H s) (hb : s.heap.objs.size ≤ b) (hn : H' b = none) : FpOk X pins H' b := by
  refine ⟨hn, Nat.ne_of_gt (Nat.lt_of_lt_of_le I.lt hb), I.nofs hb, .inr (Nat.le_trans I.sz hb), fun x c e z => ?_, fun p hp z => ?_⟩
  · obtain ⟨v, q⟩ := I.cell x c e
    exact absurd (Nat.lt_of_lt_of_le q.lt (by rw [z]; exact hb)) (Nat.lt_irrefl _)
  · exact absurd (Nat.lt_of_lt_of_le (Heap.lt_size (I.pin p hp).1) (by rw [z]; exact hb)) (Nat.lt_irrefl _)
structure Turn (P : Program) (w : World) (K : PySem.W.Frag) (tg : Expr) (J : It) (fp : List Addr) (it : Addr) (tn : Nat → Heap → Prop) : Prop where
  mem : it ∈ fp
  obj : ∀ i h, tn i h → ∀ b ∈ fp, ∃ o, h.get? b = some o ∧ ∀ v, o.data ≠ .cell v
  keep : ∀ i h h', tn i h → (∀ b ∈ fp, ∀ o, h.get? b = some o → h'.get? b = some o) → tn i h'
  item : ∀ (X : Cx), X.prog = P → X.w = w → X.K = K → X.calm = true → ∀ (i : Nat) (pins : List (Addr × Obj)) (s : Shared) (σ : St) (H : Hp) (E : Value → Shared → Prop), Inv X pins σ H s → (∀ b ∈ fp, FpOk X pins H b) → tn i s.heap → J.go i H →
    wpAny (model P w) X.A (pyNext (.ref it)) (fun r s1 => ∃ u, r = some u ∧
      wpAny (model P w) X.A (letOwnedTupleGo tg (.ref it) u) (fun _ s2 => ∃ x H', Inv X pins σ H' s2 ∧ RelV x u ∧ J.yld i H x H' ∧ tn (i + 1) s2.heap ∧ ∀ b ∈ fp, H' b = none) E s1) E s
  done : ∀ (X : Cx), X.prog = P → X.w = w → X.K = K → X.calm = true → ∀ (i : Nat) (pins : List (Addr × Obj)) (s : Shared) (σ : St) (H : Hp) (E : Value → Shared → Prop), Inv X pins σ H s → (∀ b ∈ fp, FpOk X pins H b) → tn i s.heap → J.stop i H →
    wpAny (model P w) X.A (pyNext (.ref it)) (fun r s1 => r = none ∧ Inv X pins σ H s1) E s
  self : ∀ (A : Around) (i : Nat) (s : Shared) (Q : Value → Shared → Prop) (E : Value → Shared → Prop), tn i s.heap → Q (.ref it) s → wpAny (model P w) A (pyIter (.ref it)) Q E s
abbrev TI := St → Hp → (It → Hp → Prop) → Prop
def PIE (X : Cx) (pins : List (Addr × Obj)) (σ : St) (tg : Expr) (R : It → Hp → Prop) (itv : Value) (s2 : Shared) : Prop :=
  ∃ (it : Addr) (fp : List Addr) (tn : Nat → Heap → Prop) (J : It) (H' : Hp), itv = .ref it ∧ Inv X pins σ H' s2 ∧ Turn X.prog X.w X.K tg J fp it tn ∧ tn 0 s2.heap ∧ (∀ b ∈ fp, FpOk X pins H' b) ∧ R J H'
def PI (X : Cx) (tg iter : Expr) (wi : TI) : Prop :=
  ∀ (pins : List (Addr × Obj)) (s : Shared) (σ : St) (H : Hp) (R : It → Hp → Prop), Inv X pins σ H s → wi σ H R →
    wpAny (model X.prog X.w) X.A (eval iter X.env) (fun v s1 => wpAny (model X.prog X.w) X.A (pyIter v) (PIE X pins σ tg R) X.xe s1) X.xe s
theorem go_of {M : Model} {A : Around} {E : Value → Shared → Prop} {s : Shared} {tg : Expr} {it : Addr} {u : Value} {o : Obj} {n : String} {vs : Array Value} {Q : Unit → Shared → Prop} (ho : s.heap.get? it = some o) (hc : o.cls = .type n) (hd : o.data = .fields vs)
    (hn : ["enumerate", "zip", "dict_itemiterator", "dict_reverseitemiterator", "odict_iterator", "itertools.zip_longest", "itertools.pairwise"].contains n = false) (hQ : Q () s) : wpAny M A (letOwnedTupleGo tg (.ref it) u) Q E s := by
  unfold letOwnedTupleGo
  cases tg <;> first
    | exact wpAny_pure hQ
    | (cases u <;> first
        | exact wpAny_pure hQ
        | (refine wpAny_bind (wpAny_load ho ?_)
           rw [hc, hd]
           show wpAny M A (if (["enumerate", "zip", "dict_itemiterator", "dict_reverseitemiterator", "odict_iterator", "itertools.zip_longest", "itertools.pairwise"].contains n && vs[0]? == some (rawInt _)) = true then _ else _) Q E s
           rw [if_neg (by intro h; rw [hn, Bool.false_and] at h; cases h)]
           exact wpAny_pure hQ))
def Itl (K : PySem.W.Frag) (a : Addr) : It :=
  ⟨fun i H => ∃ xs x, SqL K H a xs ∧ xs[i]? = some x, fun i H x H' => H' = H ∧ ∀ xs, SqL K H a xs → xs[i]? = some x, fun i H => ∃ xs, SqL K H a xs ∧ xs.length ≤ i⟩
def Itr (lo : Int) (n : Nat) : It := ⟨fun i _ => i < n, fun i H x H' => H' = H ∧ x = .int (lo + i), fun i _ => n ≤ i⟩
theorem turn_list {P : Program} {w : World} {K : PySem.W.Frag} {tg : Expr} (a it : Addr) : Turn P w K tg (Itl K a) [it] it (fun i h => h.IsListIter it a i) where
  mem := by simp
  obj := fun i h st b hb => by
    have e : b = it := by simpa using hb
    subst e
    obtain ⟨o, e, c, d⟩ := st
    exact ⟨o, e, fun v z => by rw [d] at z; cases z⟩
  keep := fun i h h' st k => st.at fun o e => k it (by simp) o e
  item := by
    intro X hP hw hK hc i pins s σ H E I hf st hg
    subst hP hw hK
    obtain ⟨xs, x, hq, hx⟩ := hg
    obtain ⟨its, rv, p, hz⟩ := I.list hq
    obtain ⟨u, hu, ru⟩ := rv.get hx
    obtain ⟨f0, f1, f2, f3, f4, f5⟩ := hf it (by simp)
    refine wpAny_pyNext_list_item st p.isList (x := u) (by simpa using hu) fun h' st' sb => ?_
    have I1 : Inv X pins σ H { s with heap := h' } := I.turned (t' := s.toks) (fun b o hb e => (sb.2 b hb).trans e) f0 f1 f3 f4 f5
    obtain ⟨o, e, c, d⟩ := id st'
    exact ⟨u, rfl, go_of (s := { s with heap := h' }) e c d (by decide) ⟨x, H, I1, ru, ⟨rfl, fun ys hy => by rw [I.list_inj hy hq]; exact hx⟩, st', fun b hb => (hf b hb).1⟩⟩
  done := by
    intro X hP hw hK hc i pins s σ H E I hf st hg
    subst hP hw hK
    obtain ⟨xs, hq, hx⟩ := hg
    obtain ⟨its, rv, p, hz⟩ := I.list hq
    obtain ⟨f0, f1, f2, f3, f4, f5⟩ := hf it (by simp)
    have hl := rv.length
    exact wpAny_pyNext_list_end (I.ok.hd hc) st p.isList (by simp; omega) fun h' eb => ⟨rfl, I.turned (t' := s.toks) (fun b o hb e => eb b o hb e) f0 f1 f3 f4 f5⟩
  self := fun _ _ _ _ _ st h => wpAny_pyIter_listiter st h
theorem turn_range {P : Program} {w : World} {K : PySem.W.Frag} {tg : Expr} (it : Addr) (lo : Int) (n : Nat) : Turn P w K tg (Itr lo n) [it] it (fun i h => IsRangeIter h it (lo + (i : Nat) * 1) ((n : Int) - (i : Nat)) 1) where
  mem := by simp
  obj := fun i h st b hb => by
    have e : b = it := by simpa using hb
    subst e
    exact ⟨_, st, fun v z => by
      have z' : Data.fields _ = Data.cell v := z
      cases z'⟩
  keep := fun i h h' st k => k it (by simp) _ st
  item := by
    intro X hP hw hK hc i pins s σ H E I hf st hg
    subst hP hw hK
    obtain ⟨f0, f1, f2, f3, f4, f5⟩ := hf it (by simp)
    have W := Walks.range (prog := X.prog) (w := X.w) (I.ok.hd hc) it lo 1 n
    refine W.item i s _ _ hg st fun v h' tk hv st' kk => ?_
    obtain ⟨t, rfl⟩ := hv
    have I1 : Inv X pins σ H { s with heap := h', toks := tk } := I.turned (fun b o hb e => kk b o (by simpa using hb) e) f0 f1 f3 f4 f5
    refine ⟨_, rfl, go_of (s := { s with heap := h', toks := tk }) (n := "range_iterator") st' rfl rfl (by decide) ⟨.int (lo + i), H, I1, ⟨t, ?_⟩, ⟨rfl, rfl⟩, st', fun b hb => (hf b hb).1⟩⟩
    rw [Int.mul_one]
  done := by
    intro X hP hw hK hc i pins s σ H E I hf st hg
    subst hP hw hK
    obtain ⟨f0, f1, f2, f3, f4, f5⟩ := hf it (by simp)
    exact wpAny_pyNext_range_end (I.ok.hd hc) st (by have : n ≤ i := hg; omega) fun h' eb => ⟨rfl, I.turned (t' := s.toks) (fun b o hb e => eb b o hb e) f0 f1 f3 f4 f5⟩
  self := fun _ _ _ _ _ st h => wpAny_pyIter_rangeiter st h
end L2
namespace L2
open PySem PySem.Spec PyProof.Rows
section
variable {X : Cx} {tg : Expr}
def iList (K : PySem.W.Frag) (tl : TE) : TI := fun σ H R => tl σ H fun x H1 => ∃ a, x = .ref a ∧ (∃ xs, SqL K H1 a xs) ∧ R (Itl K a) H1
theorem pi_list {l : Expr} {tl : TE} (hl : PE X l tl) : PI X tg l (iList X.K tl) := by
  intro pins s σ H R I h
  refine thn (hl pins s σ H _ I h) fun v s1 ⟨x, H1, I1, r1, q1⟩ => ?_
  obtain ⟨a, e, ⟨xs, hq⟩, q⟩ := q1
  subst e
  cases r1
  obtain ⟨its, rv, p, hz⟩ := I1.list hq
  refine wpAny_pyIter_list p.isList ?_
  refine ⟨s1.heap.objs.size, [s1.heap.objs.size], _, _, H1, rfl, I1.kept (t' := s1.toks) fun b o e => Heap.get?_push_of_some _ e, turn_list a _, ⟨_, Heap.get?_push_size _ rfl, rfl, rfl⟩, fun b hb => ?_, q⟩
  have e : b = s1.heap.objs.size := by simpa using hb
  subst e
  exact I1.fpOk (Nat.le_refl _) (I1.hok.fresh (Nat.le_refl _))
theorem range_it {pins : List (Addr × Obj)} {σ : St} {H : Hp} {s : Shared} {R : It → Hp → Prop} {E : Value → Shared → Prop} {lo hi : Int} {t u v : Tok} {tk : Nat} (I : Inv X pins σ H s) (h1 : -(2 ^ 62) ≤ lo) (h2 : lo < 2 ^ 62) (h3 : -(2 ^ 62) ≤ hi) (h4 : hi < 2 ^ 62)
    (q : R (Itr lo (hi - lo).toNat) H) : wpAny (model X.prog X.w) X.A (pyIter (.ref s.heap.objs.size)) (PIE X pins σ tg R) E { s with heap := s.heap.push { cls := .type "range", data := .fields #[.int lo t, .int hi u, .int 1 v] }, toks := tk } := by
  refine wpAny_pyIter_range (IsRange.new ..) (small_one h1 h2 h3 h4) ?_
  have I1 : Inv X pins σ H { s with heap := s.heap.push { cls := .type "range", data := .fields #[.int lo t, .int hi u, .int 1 v] }, toks := tk } := I.kept fun b o e => Heap.get?_push_of_some _ e
  refine ⟨(s.heap.push { cls := .type "range", data := .fields #[.int lo t, .int hi u, .int 1 v] }).objs.size, [(s.heap.push { cls := .type "range", data := .fields #[.int lo t, .int hi u, .int 1 v] }).objs.size], _, _, H, rfl,
    I1.kept (t' := tk) fun b o e => Heap.get?_push_of_some _ e, turn_range _ lo (hi - lo).toNat, ?_, fun b hb => ?_, q⟩
  · have e1 : lo + ((0 : Nat) : Int) * 1 = lo := by simp
    have e2 : (((hi - lo).toNat : Nat) : Int) - ((0 : Nat) : Int) = Builtin.Range.rangeSize lo hi 1 := by rw [rangeSize_one]; split <;> omega
    show IsRangeIter _ _ (lo + ((0 : Nat) : Int) * 1) ((((hi - lo).toNat : Nat) : Int) - ((0 : Nat) : Int)) 1
    rw [e1, e2]
    exact Heap.get?_push_size _ rfl
  · have e : b = (s.heap.push { cls := .type "range", data := .fields #[.int lo t, .int hi u, .int 1 v] }).objs.size := by simpa using hb
    subst e
    exact I1.fpOk (Nat.le_refl _) (I1.hok.fresh (Nat.le_refl _))
def iRng1 (ta : TA) : TI := fun σ H R => ta σ H fun vs H1 => ∃ j : Int, vs = [.int j] ∧ -(2 ^ 62) ≤ j ∧ j < 2 ^ 62 ∧ R (Itr 0 j.toNat) H1
theorem pi_range1 {a : Expr} {ta : TA} {p pos : Pos} (hg : Gl X "range") (hm : X.mg "range" = none) (ha : PA X [a] ta) (hs : starEach [a] X.env = [(false, eval a X.env)] := by rfl) : PI X tg (.Call (.Name "range" p) [a] [] pos) (iRng1 ta) := by
  intro pins s σ H R I h
  refine Call_ (ld_blt I hg hm boot_range (PyProof.Rows.callWith_type1 (thn (ha pos pins s σ H _ I h) fun us s1 ⟨vs, H1, I1, r1, q1⟩ => ?_) hs rfl))
  obtain ⟨j, e, q1, q2, q⟩ := q1
  subst e
  cases r1 with
  | cons r rr =>
    cases rr
    obtain ⟨t, rfl⟩ := r
    exact call_range_1 (range_it I1 (by omega) (by omega) q1 q2 (by simpa using q))
def tFor (wi : TI) (g : TG) (tb : TS) : TS := fun D σ H => wi σ H fun J H1 => ∃ W : Nat → Nat → St → Hp → Prop, (∃ m, W 0 m σ H1) ∧ ∀ i m σ H, W i m σ H →
  (J.stop i H ∧ D.nx σ H) ∨ (J.go i H ∧ ∃ N : St → Hp → Prop, (∀ σ' H', N σ' H' → ∃ m', m' < m ∧ W (i + 1) m' σ' H') ∧ ∀ x H', J.yld i H x H' → g x σ H' fun σ2 H2 => tb { D with nx := N, ct := N, bk := D.nx } σ2 H2)
def pinsAt (fp : List Addr) (h : Heap) : List (Addr × Obj) := fp.filterMap fun b => (h.get? b).map fun o => (b, o)
theorem mem_pinsAt {fp : List Addr} {h : Heap} {b : Addr} {o : Obj} (hb : b ∈ fp) (e : h.get? b = some o) : (b, o) ∈ pinsAt fp h := List.mem_filterMap.mpr ⟨b, hb, by rw [e]; rfl⟩
theorem of_pinsAt {fp : List Addr} {h : Heap} {p : Addr × Obj} (hp : p ∈ pinsAt fp h) : p.1 ∈ fp ∧ h.get? p.1 = some p.2 := by
  obtain ⟨b, hb, e⟩ := List.mem_filterMap.mp hp
  cases q : h.get? b with
  | none => rw [q] at e; cases e
  | some o =>
    rw [q] at e
    have e' : (b, o) = p := Option.some.inj e
    subst e'
    exact ⟨hb, q⟩
theorem Inv.pinned {pins : List (Addr × Obj)} {σ : St} {H : Hp} {s : Shared} {fp : List Addr} (I : Inv X pins σ H s) (hf : ∀ b ∈ fp, FpOk X pins H b) (ho : ∀ b ∈ fp, ∃ o, s.heap.get? b = some o ∧ ∀ v, o.data ≠ .cell v) : Inv X (pins ++ pinsAt fp s.heap) σ H s :=
  I.pins_of fun p hp => (List.mem_append.mp hp).elim (fun z => I.pin p (List.mem_append_right _ z)) fun z => by
    obtain ⟨hb, e⟩ := of_pinsAt z
    obtain ⟨f0, f1, f2, _⟩ := hf p.1 hb
    obtain ⟨o, e', d⟩ := ho p.1 hb
    rw [e] at e'; cases e'
    exact ⟨e, f0, f1, f2, d⟩
theorem Inv.unpinned {pins pl : List (Addr × Obj)} {σ : St} {H : Hp} {s : Shared} (I : Inv X (pins ++ pl) σ H s) : Inv X pins σ H s := I.pins_of fun p hp => I.pin p (List.mem_append_right _ (List.mem_append_left _ hp))
theorem ps_for {iter : Expr} {body : List Stmt} {wi : TI} {g : TG} {tb : TS} {pos : Pos} (hp : PassesOwn (model X.prog X.w) X.A X.env X.xe) (hc : X.calm = true) (hi : PI X tg iter wi) (hg : PG X tg g) (hb : PSs X body tb)
    (hs : ∀ x, foldedSetIterable iter X.env x = pure x := by intro _; rfl) : PS X (.For tg iter body [] pos) (tFor wi g tb) := by
  intro pins s σ H D I h
  refine wpAny_For (thn (hi pins s σ H _ I h) fun v s1 h1 => thn h1 fun itv s2 h2 => ?_) hs
  obtain ⟨it, fp, tn, J, H2, e, I2, T, st2, f2, W, ⟨m0, w0⟩, turn⟩ := h2
  subst e
  -- what stays true of the iterator's objects through the loop
  have stat : ∀ {H' : Hp}, (∀ b ∈ fp, H' b = none) → ∀ b ∈ fp, FpOk X pins H' b := fun hn b hb => ⟨hn b hb, (f2 b hb).2⟩
  refine codeAny_forLoop_any (fun n s' => ∃ i σ' H', Inv X pins σ' H' s' ∧ tn i s'.heap ∧ (∀ b ∈ fp, H' b = none) ∧ W i n σ' H') ?_ m0 ⟨0, σ, H2, I2, st2, fun b hb => (f2 b hb).1, w0⟩
  rintro n s3 ⟨i, σ3, H3, I3, st3, fr3, w3⟩
  rcases turn i n σ3 H3 w3 with ⟨stop, qn⟩ | ⟨go, N, hN, step⟩
  · refine wpAny_passesOwn hp (thn (T.done X rfl rfl rfl hc i pins s3 σ3 H3 X.xe I3 (stat fr3) st3 stop) fun r s4 ⟨hr, I4⟩ => ?_)
    subst hr
    exact wpAny_execs_nil ⟨σ3, H3, I4, qn⟩
  · refine wpAny_passesOwn hp (thn (T.item X rfl rfl rfl hc i pins s3 σ3 H3 X.xe I3 (stat fr3) st3 go) fun r s4 ⟨u, hr, h4⟩ => ?_)
    subst hr
    refine wpAny_passesOwn hp (thn h4 fun _ s5 ⟨x, H5, I5, r5, y5, st5, fr5⟩ => ?_)
    have I5' := I5.pinned (stat fr5) (T.obj _ _ st5)
    refine wpAny_passesOwn hp (thn (hg _ s5 σ3 H5 x u _ I5' r5 (step x H5 y5)) fun _ s6 ⟨σ6, H6, I6, q6⟩ => ?_)
    refine wpAny_passesOwn hp (thn (hb _ s6 σ6 H6 _ I6 q6) fun f s7 q7 => ?_)
    have again : ∀ {σ7 : St} {H7 : Hp}, Inv X (pins ++ pinsAt fp s5.heap) σ7 H7 s7 → N σ7 H7 → ∃ m, m < n ∧ ∃ i σ' H', Inv X pins σ' H' s7 ∧ tn i s7.heap ∧ (∀ b ∈ fp, H' b = none) ∧ W i m σ' H' := fun {σ7 H7} I7 n7 => by
      obtain ⟨m', hm, w7⟩ := hN σ7 H7 n7
      refine ⟨m', hm, i + 1, σ7, H7, I7.unpinned, T.keep _ _ _ st5 fun b hb o e => (I7.pin (b, o) (List.mem_append_right _ (List.mem_append_right _ (mem_pinsAt hb e)))).1, fun b hb => ?_, w7⟩
      obtain ⟨o, e, d⟩ := T.obj _ _ st5 b hb
      exact (I7.pin (b, o) (List.mem_append_right _ (List.mem_append_right _ (mem_pinsAt hb e)))).2.1
    cases f with
    | next => obtain ⟨σ7, H7, I7, n7⟩ := q7; exact again I7 n7
    | cont => obtain ⟨σ7, H7, I7, n7⟩ := q7; exact again I7 n7
    | brk => obtain ⟨σ7, H7, I7, q7⟩ := q7; exact ⟨σ7, H7, I7.unpinned, q7⟩
    | ret v => obtain ⟨x7, σ7, H7, I7, r7, q7⟩ := q7; exact ⟨x7, σ7, H7, I7.unpinned, r7, q7⟩
end
theorem for_list {K : PySem.W.Frag} {a : Addr} {xs : List V} {g : TG} {tb : TS} {D : Ends} {σ : St} {H : Hp} (Pv : Nat → St → Hp → Prop) (h0 : Pv 0 σ H) (hl : ∀ i σ H, i ≤ xs.length → Pv i σ H → SqL K H a xs)
    (hs : ∀ i x σ H, xs[i]? = some x → Pv i σ H → g x σ H fun σ2 H2 => tb { D with nx := Pv (i + 1), ct := Pv (i + 1), bk := D.nx } σ2 H2) (hd : ∀ σ H, Pv xs.length σ H → D.nx σ H) :
    ∃ W : Nat → Nat → St → Hp → Prop, (∃ m, W 0 m σ H) ∧ ∀ i m σ H, W i m σ H →
      ((Itl K a).stop i H ∧ D.nx σ H) ∨ ((Itl K a).go i H ∧ ∃ N : St → Hp → Prop, (∀ σ' H', N σ' H' → ∃ m', m' < m ∧ W (i + 1) m' σ' H') ∧ ∀ x H', (Itl K a).yld i H x H' → g x σ H' fun σ2 H2 => tb { D with nx := N, ct := N, bk := D.nx } σ2 H2) := by
  refine ⟨fun i m σ H => m = xs.length - i ∧ i ≤ xs.length ∧ Pv i σ H, ⟨xs.length, by simp, Nat.zero_le _, h0⟩, ?_⟩
  rintro i m σ H ⟨rfl, hi, p⟩
  have q := hl i σ H hi p
  by_cases hlt : i < xs.length
  · refine .inr ⟨⟨xs, xs[i], q, by simp [hlt]⟩, Pv (i + 1), fun σ' H' p' => ⟨xs.length - (i + 1), by omega, rfl, hlt, p'⟩, fun x H' y => ?_⟩
    obtain ⟨e, y⟩ := y
    subst e
    exact hs i x σ _ (y xs q) p
  · have e : i = xs.length := by omega
    subst e
    exact .inl ⟨⟨xs, q, Nat.le_refl _⟩, hd σ H p⟩
theorem for_range {lo : Int} {n : Nat} {g : TG} {tb : TS} {D : Ends} {σ : St} {H : Hp} (Pv : Nat → St → Hp → Prop) (h0 : Pv 0 σ H)
    (hs : ∀ i σ H, i < n → Pv i σ H → g (.int (lo + i)) σ H fun σ2 H2 => tb { D with nx := Pv (i + 1), ct := Pv (i + 1), bk := D.nx } σ2 H2) (hd : ∀ σ H, Pv n σ H → D.nx σ H) :
    ∃ W : Nat → Nat → St → Hp → Prop, (∃ m, W 0 m σ H) ∧ ∀ i m σ H, W i m σ H →
      ((Itr lo n).stop i H ∧ D.nx σ H) ∨ ((Itr lo n).go i H ∧ ∃ N : St → Hp → Prop, (∀ σ' H', N σ' H' → ∃ m', m' < m ∧ W (i + 1) m' σ' H') ∧ ∀ x H', (Itr lo n).yld i H x H' → g x σ H' fun σ2 H2 => tb { D with nx := N, ct := N, bk := D.nx } σ2 H2) := by
  refine ⟨fun i m σ H => m = n - i ∧ i ≤ n ∧ Pv i σ H, ⟨n, by simp, Nat.zero_le _, h0⟩, ?_⟩
  rintro i m σ H ⟨rfl, hi, p⟩
  by_cases hlt : i < n
  · refine .inr ⟨hlt, Pv (i + 1), fun σ' H' p' => ⟨n - (i + 1), by omega, rfl, hlt, p'⟩, fun x H' y => ?_⟩
    obtain ⟨e, y⟩ := y
    subst e y
    exact hs i σ _ hlt p
  · have e : i = n := by omega
    subst e
    exact .inl ⟨Nat.le_refl _, hd σ H p⟩
theorem while_by {c : TT} {tb : TS} {D : Ends} {σ : St} {H : Hp} (Pv : St → Hp → Prop) (μ : St → Hp → Nat) (h0 : Pv σ H)
    (hs : ∀ σ H, Pv σ H → c σ H fun b H1 => if b = true then tb { D with nx := fun σ' H' => Pv σ' H' ∧ μ σ' H' < μ σ H, ct := fun σ' H' => Pv σ' H' ∧ μ σ' H' < μ σ H, bk := D.nx } σ H1 else D.nx σ H1)
    (mono : ∀ σ H Q Q', (∀ b H1, Q b H1 → Q' b H1) → c σ H Q → c σ H Q') : tWhile c tb D σ H := by
  refine ⟨fun m σ H => m = μ σ H ∧ Pv σ H, ⟨_, rfl, h0⟩, ?_⟩
  rintro m σ H ⟨rfl, p⟩
  refine mono σ H _ _ (fun b H1 q => ?_) (hs σ H p)
  cases b with
  | true => exact ⟨_, fun σ' H' ⟨p', l⟩ => ⟨_, l, rfl, p'⟩, q⟩
  | false => exact q
end L2
namespace L2
open PySem PySem.Spec PyProof.Rows
abbrev R2 := V → V → Hp → VK → Prop
def OpR (X : Cx) (f : Value → Value → Sem Value) (r : R2) : Prop :=
  ∀ (pins : List (Addr × Obj)) (s : Shared) (σ : St) (H : Hp) (x y : V) (v u : Value) (Q : VK), Inv X pins σ H s → RelV x v → RelV y u → r x y H Q →
    wpAny (model X.prog X.w) X.A (f v u) (EP X pins σ Q) X.xe s
def CallR (X : Cx) (f : Value) (r : List V → Hp → VK → Prop) : Prop :=
  ∀ (pins : List (Addr × Obj)) (s : Shared) (σ : St) (H : Hp) (xs : List V) (us : List Value) (Q : VK), Inv X pins σ H s → Vals xs us → r xs H Q →
    wpAny (model X.prog X.w) X.A (call f us) (EP X pins σ Q) X.xe s
def tOp (r : R2) (ta tb : TE) : TE := fun σ H Q => ta σ H fun x H1 => tb σ H1 fun y H2 => r x y H2 Q
def tUn (r : V → Hp → VK → Prop) (ta : TE) : TE := fun σ H Q => ta σ H fun x H1 => r x H1 Q
def rI (C : Int → Int → Prop) (g : Int → Int → V) : R2 := fun x y H Q => ∃ i j, x = .int i ∧ y = .int j ∧ C i j ∧ Q (g i j) H
def rI0 (g : Int → Int → V) : R2 := fun x y H Q => ∃ i j, x = .int i ∧ y = .int j ∧ Q (g i j) H
def rU (g : Int → V) : V → Hp → VK → Prop := fun x H Q => ∃ i, x = .int i ∧ Q (g i) H
section
variable {X : Cx} {a b c : Expr} {ta tb tc : TE} {pos : Pos}
theorem binT (ha : PE X a ta) (hb : PE X b tb) {pins : List (Addr × Obj)} {s : Shared} {σ : St} {H : Hp} {R : V → V → Hp → Prop} (I : Inv X pins σ H s)
    (h : ta σ H fun x H1 => tb σ H1 fun y H2 => R x y H2) {Q : Value → Shared → Prop} {f : Value → Value → Sem Value}
    (hf : ∀ v u s2 x y H2, Inv X pins σ H2 s2 → RelV x v → RelV y u → R x y H2 → wpAny (model X.prog X.w) X.A (f v u) Q X.xe s2) :
    wpAny (model X.prog X.w) X.A (eval a X.env) (fun v s₁ => wpAny (model X.prog X.w) X.A (eval b X.env) (fun u s₂ => wpAny (model X.prog X.w) X.A (f v u) Q X.xe s₂) X.xe s₁) X.xe s := by
  refine thn (ha pins s σ H _ I h) fun v s1 ⟨x, H1, I1, r1, q1⟩ => ?_
  refine thn (hb pins s1 σ H1 _ I1 q1) fun u s2 ⟨y, H2, I2, r2, q2⟩ => ?_
  exact hf v u s2 x y H2 I2 r1 r2 q2
theorem pe_op {op : Operator} {r : R2} (ho : OpR X (binaryOp op) r) (ha : PE X a ta) (hb : PE X b tb) : PE X (.BinOp a op b pos) (tOp r ta tb) := by
  intro pins s σ H Q I h
  exact wpAny_BinOp (binT ha hb I h fun v u s2 x y H2 I2 rx ry q => ho pins s2 σ H2 x y v u Q I2 rx ry q)
theorem opI {f : Value → Value → Sem Value} {C : Int → Int → Prop} {g : Int → Int → Int}
    (rule : ∀ (i j : Int) (t u : Tok) (s : Shared) (Q : Value → Shared → Prop) (E : Value → Shared → Prop), C i j → Q (.int (g i j) s.toks) { s with toks := s.toks + 1 } → wpAny (model X.prog X.w) X.A (f (.int i t) (.int j u)) Q E s) :
    OpR X f (rI C fun i j => .int (g i j)) := by
  intro pins s σ H x y v u Q I rx ry h
  obtain ⟨i, j, rfl, rfl, hc, q⟩ := h
  obtain ⟨t, rfl⟩ := rx
  obtain ⟨t', rfl⟩ := ry
  exact rule i j t t' s _ _ hc ⟨.int (g i j), H, I.tok _, ⟨_, rfl⟩, q⟩
theorem opI0 {f : Value → Value → Sem Value} {g : Int → Int → Int}
    (rule : ∀ (i j : Int) (t u : Tok) (s : Shared) (Q : Value → Shared → Prop) (E : Value → Shared → Prop), Q (.int (g i j) s.toks) { s with toks := s.toks + 1 } → wpAny (model X.prog X.w) X.A (f (.int i t) (.int j u)) Q E s) :
    OpR X f (rI0 fun i j => .int (g i j)) := by
  intro pins s σ H x y v u Q I rx ry h
  obtain ⟨i, j, rfl, rfl, q⟩ := h
  obtain ⟨t, rfl⟩ := rx
  obtain ⟨t', rfl⟩ := ry
  exact rule i j t t' s _ _ ⟨.int (g i j), H, I.tok _, ⟨_, rfl⟩, q⟩
theorem opB0 {f : Value → Value → Sem Value} {g : Int → Int → Bool}
    (rule : ∀ (i j : Int) (t u : Tok) (s : Shared) (Q : Value → Shared → Prop) (E : Value → Shared → Prop), Q (.bool (g i j)) s → wpAny (model X.prog X.w) X.A (f (.int i t) (.int j u)) Q E s) :
    OpR X f (rI0 fun i j => .bl (g i j)) := by
  intro pins s σ H x y v u Q I rx ry h
  obtain ⟨i, j, rfl, rfl, q⟩ := h
  obtain ⟨t, rfl⟩ := rx
  obtain ⟨t', rfl⟩ := ry
  exact rule i j t t' s _ _ ⟨.bl (g i j), H, I, rfl, q⟩
def CDiv (i j : Int) : Prop := 0 < j ∧ j < 1073741824
def CMul (i j : Int) : Prop := (-(2 ^ 64) < i ∧ i < 2 ^ 64) ∨ (-(2 ^ 64) < j ∧ j < 2 ^ 64)
theorem CMul.ok {i j : Int} (h : CMul i j) : IntMulOk i j := by
  rcases h with ⟨h1, h2⟩ | ⟨h1, h2⟩
  · exact .of_left (intBits_le_64 h1 h2)
  · exact .of_right (intBits_le_64 h1 h2)
theorem op_add : OpR X (binaryOp .Add) (rI0 fun i j => .int (i + j)) := opI0 fun _ _ _ _ _ _ _ q => add_int q
theorem op_sub : OpR X (binaryOp .Sub) (rI0 fun i j => .int (i - j)) := opI0 fun _ _ _ _ _ _ _ q => sub_int q
theorem op_mul : OpR X (binaryOp .Mult) (rI CMul fun i j => .int (i * j)) := opI fun _ _ _ _ _ _ _ hc q => mul_int q hc.ok
theorem op_fdiv : OpR X (binaryOp .FloorDiv) (rI CDiv fun i j => .int (i / j)) := opI fun i j _ _ _ _ _ hc q => by
  have h1 : (0 : Int) < j := hc.1
  have h2 : j < 1073741824 := hc.2
  exact floordiv_int (by omega) (by rw [Int.fdiv_eq_ediv_of_nonneg i (by omega)]; exact q) (.inl (PyProof.noPylong_small (by omega)))
theorem op_mod : OpR X (binaryOp .Mod) (rI (fun _ j => 0 < j) fun i j => .int (i % j)) := opI fun i j _ _ _ _ _ hc q => by
  have h1 : (0 : Int) < j := hc
  exact mod_int' (by omega) (by rw [Int.fmod_eq_emod_of_nonneg i (by omega)]; exact q)
theorem op_modN : OpR X (binaryOp .Mod) (rI (fun _ j => j ≠ 0) fun i j => .int (i.fmod j)) := opI fun _ _ _ _ _ _ _ hc q => mod_int' hc q
end
def scal : V → V → Bool
  | .non, .non => true | .non, .int _ => true | .int _, .non => true | .non, .bl _ => true | .bl _, .non => true | .non, .str _ => true | .str _, .non => true
  | .int _, .int _ => true | .bl _, .bl _ => true | .str _, .str _ => true | .byt _, .byt _ => true
  | .int _, .str _ => true | .str _, .int _ => true | .bl _, .str _ => true | .str _, .bl _ => true
  | _, _ => false
def rEq : R2 := fun x y H Q => scal x y = true ∧ Q (.bl (decide (x = y))) H
def rNe : R2 := fun x y H Q => scal x y = true ∧ Q (.bl (!decide (x = y))) H
theorem dec_int {i j : Int} : decide (V.int i = V.int j) = (i == j) := by
  rw [Bool.eq_iff_iff]
  simp
theorem dec_bl {i j : Bool} : decide (V.bl i = V.bl j) = (i == j) := by
  rw [Bool.eq_iff_iff]
  simp
theorem dec_str {i j : Str} : decide (V.str i = V.str j) = (i == j) := by
  rw [Bool.eq_iff_iff]
  simp
theorem dec_byt {i j : Array UInt8} : decide (V.byt i = V.byt j) = (i.toList == j.toList) := by
  rw [Bool.eq_iff_iff]
  cases i
  cases j
  simp
section
variable {X : Cx} {a b c : Expr} {ta tb tc : TE} {pos : Pos}
theorem fin_bl {pins : List (Addr × Obj)} {σ : St} {H : Hp} {s : Shared} {Q : VK} {k k' : Bool} (I : Inv X pins σ H s) (q : Q (.bl k) H) (e : k = k') : EP X pins σ Q (.bool k') s := by
  subst e
  exact ⟨.bl k, H, I, rfl, q⟩
theorem op_eq : OpR X (compareOp .Eq) rEq := by
  intro pins s σ H x y v u Q I rx ry h
  obtain ⟨hs, q⟩ := h
  cases x with
  | non =>
    cases rx
    cases y with
    | non => cases ry; exact PySem.EqNone.eq_none_none (fin_bl I q (by simp))
    | bl j => cases ry; exact PySem.EqNone.eq_none_bool (fin_bl I q (by simp))
    | int j => obtain ⟨t', rfl⟩ := ry; exact PySem.EqNone.eq_none_int (fin_bl I q (by simp))
    | str j => obtain ⟨t', rfl⟩ := ry; exact PySem.EqNone.eq_none_str (fin_bl I q (by simp))
    | _ => exact absurd (show false = true from hs) Bool.false_ne_true
  | bl i =>
    cases rx
    cases y with
    | non => cases ry; exact PySem.EqNone.eq_bool_none (fin_bl I q (by simp))
    | bl j => cases ry; exact eq_bool (fin_bl I q dec_bl)
    | str j => obtain ⟨t', rfl⟩ := ry; exact PySem.EqMixed.eq_bool_str (fin_bl I q (by simp))
    | _ => exact absurd (show false = true from hs) Bool.false_ne_true
  | int i =>
    obtain ⟨t, rfl⟩ := rx
    cases y with
    | non => cases ry; exact PySem.EqNone.eq_int_none (fin_bl I q (by simp))
    | int j => obtain ⟨t', rfl⟩ := ry; exact eq_int (fin_bl I q dec_int)
    | str j => obtain ⟨t', rfl⟩ := ry; exact PySem.EqMixed.eq_int_str (fin_bl I q (by simp))
    | _ => exact absurd (show false = true from hs) Bool.false_ne_true
  | str i =>
    obtain ⟨t, rfl⟩ := rx
    cases y with
    | non => cases ry; exact PySem.EqNone.eq_str_none (fin_bl I q (by simp))
    | bl j => cases ry; exact PySem.EqMixed.eq_str_bool (fin_bl I q (by simp))
    | int j => obtain ⟨t', rfl⟩ := ry; exact PySem.EqMixed.eq_str_int (fin_bl I q (by simp))
    | str j => obtain ⟨t', rfl⟩ := ry; exact eq_str (fin_bl I q dec_str)
    | _ => exact absurd (show false = true from hs) Bool.false_ne_true
  | byt i =>
    obtain ⟨t, rfl⟩ := rx
    cases y with
    | byt j => obtain ⟨t', rfl⟩ := ry; exact PySem.W.eq_bytes (fin_bl I q dec_byt)
    | _ => exact absurd (show false = true from hs) Bool.false_ne_true
  | _ => cases y <;> exact absurd (show false = true from hs) Bool.false_ne_true
theorem op_ne : OpR X (compareOp .NotEq) rNe := by
  intro pins s σ H x y v u Q I rx ry h
  obtain ⟨hs, q⟩ := h
  cases x with
  | non =>
    cases rx
    cases y with
    | non => cases ry; exact PySem.EqNone.ne_none_none (fin_bl I q (by simp))
    | bl j => cases ry; exact PySem.EqNone.ne_none_bool (fin_bl I q (by simp))
    | int j => obtain ⟨t', rfl⟩ := ry; exact PySem.EqNone.ne_none_int (fin_bl I q (by simp))
    | str j => obtain ⟨t', rfl⟩ := ry; exact PySem.EqNone.ne_none_str (fin_bl I q (by simp))
    | _ => exact absurd (show false = true from hs) Bool.false_ne_true
  | bl i =>
    cases rx
    cases y with
    | non => cases ry; exact PySem.EqNone.ne_bool_none (fin_bl I q (by simp))
    | bl j => cases ry; exact ne_bool (fin_bl I q (congrArg not dec_bl))
    | str j => obtain ⟨t', rfl⟩ := ry; exact PySem.EqMixed.ne_bool_str (fin_bl I q (by simp))
    | _ => exact absurd (show false = true from hs) Bool.false_ne_true
  | int i =>
    obtain ⟨t, rfl⟩ := rx
    cases y with
    | non => cases ry; exact PySem.EqNone.ne_int_none (fin_bl I q (by simp))
    | int j => obtain ⟨t', rfl⟩ := ry; exact ne_int (fin_bl I q (congrArg not dec_int))
    | str j => obtain ⟨t', rfl⟩ := ry; exact PySem.EqMixed.ne_int_str (fin_bl I q (by simp))
    | _ => exact absurd (show false = true from hs) Bool.false_ne_true
  | str i =>
    obtain ⟨t, rfl⟩ := rx
    cases y with
    | non => cases ry; exact PySem.EqNone.ne_str_none (fin_bl I q (by simp))
    | bl j => cases ry; exact PySem.EqMixed.ne_str_bool (fin_bl I q (by simp))
    | int j => obtain ⟨t', rfl⟩ := ry; exact PySem.EqMixed.ne_str_int (fin_bl I q (by simp))
    | str j => obtain ⟨t', rfl⟩ := ry; exact ne_str (fin_bl I q (congrArg not dec_str))
    | _ => exact absurd (show false = true from hs) Bool.false_ne_true
  | byt i =>
    obtain ⟨t, rfl⟩ := rx
    cases y with
    | byt j => obtain ⟨t', rfl⟩ := ry; exact PySem.W.ne_bytes (fin_bl I q (congrArg not dec_byt))
    | _ => exact absurd (show false = true from hs) Bool.false_ne_true
  | _ => cases y <;> exact absurd (show false = true from hs) Bool.false_ne_true
theorem op_lt : OpR X (compareOp .Lt) (rI0 fun i j => .bl (decide (i < j))) := opB0 fun _ _ _ _ _ _ _ q => lt_int q
theorem op_gt : OpR X (compareOp .Gt) (rI0 fun i j => .bl (decide (j < i))) := opB0 fun _ _ _ _ _ _ _ q => gt_int q
theorem OpR.or {f : Value → Value → Sem Value} {r r' : R2} (h : OpR X f r) (h' : OpR X f r') : OpR X f (fun x y H Q => r x y H Q ∨ r' x y H Q) := by
  intro pins s σ H x y v u Q I rx ry q
  rcases q with q | q
  · exact h pins s σ H x y v u Q I rx ry q
  · exact h' pins s σ H x y v u Q I rx ry q
theorem nomark (b : Expr) {op : CmpOp} (h : op ≠ .In := by decide) (h2 : op ≠ .NotIn := by decide) : behindInMarks op b = false := by
  have e1 : (op == CmpOp.In) = false := by cases op <;> first | rfl | exact absurd rfl h
  have e2 : (op == CmpOp.NotIn) = false := by cases op <;> first | rfl | exact absurd rfl h2
  cases b <;> simp [behindInMarks, e1, e2]
theorem pe_cmpR {op : CmpOp} {r : R2} (ho : OpR X (compareOp op) r) (ha : PE X a ta) (hb : PE X b tb) (hm : behindInMarks op b = false) : PE X (.Compare a [op] [b] pos) (tOp r ta tb) := by
  intro pins s σ H Q I h
  exact wpAny_Compare1 (binT ha hb I h fun v u s2 x y H2 I2 rx ry q => ho pins s2 σ H2 x y v u Q I2 rx ry q) hm
def tTest (t : TE) : TT := fun σ H Q => t σ H fun x H' => ∃ k, x = .bl k ∧ Q k H'
theorem pt_cmpR {op : CmpOp} {r : R2} (ho : OpR X (compareOp op) r) (ha : PE X a ta) (hb : PE X b tb) (hm : behindInMarks op b = false) : PT X (.Compare a [op] [b] pos) (tTest (tOp r ta tb)) := by
  intro pins s σ H Q I h
  refine wpAny_isTrue_Compare1 (thn (ha pins s σ H _ I h) fun v s1 ⟨x, H1, I1, r1, q1⟩ => thn (hb pins s1 σ H1 _ I1 q1) fun u s2 ⟨y, H2, I2, r2, q2⟩ =>
    thn (ho pins s2 σ H2 x y v u _ I2 r1 r2 q2) fun c s3 ⟨z, H3, I3, r3, k, e, q3⟩ => ?_) hm
  subst e
  cases r3
  exact wpAny_truthy_bool ⟨H3, I3, q3⟩
theorem line63 : (sizeLine : Nat) < 2 ^ 63 := by rw [sizeLine_eq]; decide
theorem vals1 {x : V} {us : List Value} (r : Vals [x] us) : ∃ u, us = [u] ∧ RelV x u := by
  cases r with
  | cons r1 r2 => cases r2; exact ⟨_, rfl, r1⟩
theorem vals2 {x y : V} {us : List Value} (r : Vals [x, y] us) : ∃ u w', us = [u, w'] ∧ RelV x u ∧ RelV y w' := by
  cases r with
  | cons r1 r2 =>
    cases r2 with
    | cons r3 r4 => cases r4; exact ⟨_, _, rfl, r1, r3⟩
theorem call_abs : CallR X (.builtin "abs") (fun xs H Q => ∃ i, xs = [.int i] ∧ Q (.int (if i < 0 then -i else i)) H) := by
  intro pins s σ H xs us Q I r h
  obtain ⟨i, rfl, q⟩ := h
  obtain ⟨u, rfl, t, rfl⟩ := vals1 r
  exact call_abs_int fun u tk => ⟨.int (if i < 0 then -i else i), H, I.tok _, ⟨_, rfl⟩, q⟩
end
end L2
namespace L2
open PySem PySem.Spec PyProof.Rows
section
variable {prog : Program} {w : World} {A : Around} {E : Value → Shared → Prop} {s : Shared} {K : PySem.W.Frag} {x dx C f : Addr} {mA : Str → Option Value} {name : Str} {v : Value}
end
theorem RelO.some_of {v : V} {o : Option Value} (r : RelO (some v) o) : ∃ u, o = some u ∧ RelV v u := by
  cases o with
  | none => exact (show False from r).elim
  | some u => exact ⟨u, rfl, r⟩
section
variable {P : Program} {w : World} {H H' : Hp} {h h' : Heap} {a C dx : Addr} {fs fs' : List (Str × V)}
end
structure Cls (K : PySem.W.Frag) (C : Addr) : Prop where
  pg : PySem.W.plainGet K C Str.empty = true
  hd : PySem.W.hasDictIn K C = true
  po : PySem.W.plainOver K C = true
  sa : PySem.W.findIn K (.ref C) "__setattr__" = some (some (.builtin "object.__setattr__"))
theorem Cls.get {K : PySem.W.Frag} {C : Addr} (c : Cls K C) (f : Str) : PySem.W.plainGet K C f = true := c.pg
section
variable {X : Cx} {pins : List (Addr × Obj)} {σ : St} {H : Hp} {s : Shared} {a C dx : Addr} {fs : List (Str × V)} {f : Str} {v : V} {A : Around} {E : Value → Shared → Prop}
end
section
variable {X : Cx} {o e value : Expr} {f : Str} {pos pos' tpos : Pos} {ta tv : TE}
end
section
variable {X : Cx} {pins : List (Addr × Obj)} {σ : St} {H : Hp} {s : Shared} {A : Around} {E : Value → Shared → Prop} {Q : Value → Shared → Prop} {c : Value} {b : Bool}
end
end L2
namespace L2
open PySem PySem.Spec PyProof.Rows
structure Room (k : Nat) (A : Around) : Prop where
  hd : A.handled = none
  dp : A.depth + 3 * k + 5 < recursionLimit
  un : A.units + 16 * k + 200 < cLine
theorem Room.mono {j k : Nat} {A : Around} (r : Room k A) (h : j ≤ k) : Room j A := ⟨r.hd, by have := r.dp; omega, by have := r.un; omega⟩
theorem Room.deeper {k : Nat} {A : Around} (r : Room (k + 1) A) (env : Env) : Room k (A.deeper env) :=
  ⟨r.hd, by have := r.dp; show A.depth + 1 + 3 * k + 5 < _; omega, by have := r.un; show A.units + 3 + 16 * k + 200 < _; omega⟩
theorem Room.in1 {k : Nat} {A : Around} (r : Room (k + 1) A) : Room k A.in1 :=
  ⟨r.hd, by have := r.dp; show A.depth + 3 * k + 5 < _; omega, by have := r.un; show A.units + 1 + 16 * k + 200 < _; omega⟩
theorem Room.depth {k : Nat} {A : Around} (r : Room k A) : A.depth < recursionLimit := by have := r.dp; omega
theorem Room.units {k : Nat} {A : Around} (r : Room k A) : A.units + 64 < cLine := by have := r.un; omega
def tNil : TA := fun _ H Q => Q [] H
def tCons (ta : TE) (tr : TA) : TA := fun σ H Q => ta σ H fun x H1 => tr σ H1 fun xs H2 => Q (x :: xs) H2
section
variable {X : Cx} {e : Expr} {es : List Expr} {te : TE} {t : TA} {pos : Pos}
theorem pa_nil : PA X [] tNil := fun _ _ _ _ H Q I h => Calls.spliced_nil ⟨[], H, I, .nil, h⟩
theorem pa_cons (ha : PE X e te) (hr : PA X es t) (hs : starEach (e :: es) X.env = (false, eval e X.env) :: starEach es X.env := by rfl) : PA X (e :: es) (tCons te t) := by
  intro pos pins s σ H Q I h
  rw [hs]
  show wpAny _ _ (spliced ((false, eval e X.env) :: backTo pos (starEach es X.env))) _ _ s
  refine Calls.spliced_cons (thn (ha pins s σ H _ I h) fun u s1 ⟨x, H1, I1, r1, q1⟩ => ?_)
  exact thn (hr pos pins s1 σ H1 _ I1 q1) fun us s2 ⟨xs, H2, I2, r2, q2⟩ => ⟨x :: xs, H2, I2, .cons r1 r2, q2⟩
def tTup (t : TA) : TE := fun σ H Q => t σ H fun xs H1 => xs.length ≤ sizeLine ∧ ∀ p, H1 p = none → Q (.ref p) (upd H1 p (.tup xs))
def tLst (t : TA) : TE := fun σ H Q => t σ H fun xs H1 => xs.length ≤ sizeLine ∧ ∀ p, H1 p = none → Q (.ref p) (upd H1 p (.lst xs))
theorem pe_tup {x1} (h : PA X es t) : PE X (.Tuple es x1 pos) (tTup t) := by
  intro pins s σ H Q I hq
  refine wpAny_Tuple_spliced (thn (h pos pins s σ H _ I hq) fun us s1 ⟨xs, H1, I1, r, z, q⟩ => ⟨by rw [← r.length]; exact z, ?_⟩)
  have hf : H1 s1.heap.objs.size = none := I1.hok.fresh (Nat.le_refl _)
  refine ⟨.ref s1.heap.objs.size, upd H1 s1.heap.objs.size (.tup xs), I1.laid (t' := s1.toks) (fun b u e => Heap.get?_push_of_some _ e) (Nat.le_refl _) ?_, rfl, q _ hf⟩
  exact ⟨z, us, r, ⟨_, Heap.get?_push_size _ rfl, rfl, _, rfl⟩⟩
theorem pe_lst (h : PA X es t) : PE X (.List es pos) (tLst t) := by
  intro pins s σ H Q I hq
  refine wpAny_List_spliced (thn (h pos pins s σ H _ I hq) fun us s1 ⟨xs, H1, I1, r, z, q⟩ => ⟨by rw [← r.length]; exact z, ?_⟩)
  have hf : H1 s1.heap.objs.size = none := I1.hok.fresh (Nat.le_refl _)
  refine ⟨.ref s1.heap.objs.size, upd H1 s1.heap.objs.size (.lst xs), I1.laid (t' := s1.toks) (fun b u e => Heap.get?_push_of_some _ e) (Nat.le_refl _) ?_, rfl, q _ hf⟩
  exact ⟨z, us, 0, r, Heap.get?_push_size _ rfl⟩
end
abbrev Sp := List V → Hp → VK → XK → Prop
abbrev CXT := List Env → Hp → Shared → XK → Value → Shared → Prop
structure Env0 (P : Program) (w : World) (K : PySem.W.Frag) (mg : Str → Option Value) (base : Heap) (A : Around) (outer : List Env) (s : Shared) (H : Hp) : Prop where
  frames : A.frames = some outer
  mod : Mod K mg base
  bs : ∀ b o, base.get? b = some o → s.heap.get? b = some o ∧ H b = none
  bsz : base.objs.size ≤ s.heap.objs.size
  funs : s.heap.FunFrames base outer
  frf : ∀ b ∈ frs outer, H b = none
  hok : HOk P w H s.heap
  bare : AllBare s.gens
def CE (outer : List Env) (P : Program) (w : World) (H : Hp) (s : Shared) (Q : VK) (u : Value) (s' : Shared) : Prop :=
  ∃ v H', s'.os = s.os ∧ AllBare s'.gens ∧ Un (frs outer) [] H H' s.heap s'.heap ∧ HOk P w H' s'.heap ∧ RelV v u ∧ Q v H'
def CR (CX : CXT) (outer : List Env) (P : Program) (w : World) (H : Hp) (s : Shared) (Q : VK) (E : XK) (r : Result) (s' : Shared) : Prop :=
  match r with
  | .ok (.ret u) => CE outer P w H s Q u s'
  | .ok _ => False
  | .error e => CX outer H s E e s'
structure FnOk (P : Program) (w : World) (K : PySem.W.Frag) (mg : Str → Option Value) (base : Heap) (CX : CXT) (k : Nat) (f : Addr) (fd : FuncData) (ps : List Str) (sp : Sp) : Prop where
  len : ∀ vs H Q E, sp vs H Q E → vs.length = ps.length
  run : ∀ (A : Around) (outer : List Env) (s : Shared) (H : Hp) (args : Args) (us : List Value) (vs : List V) (Q : VK) (E : XK), Room k A → Env0 P w K mg base A outer s H → BindsTo s fd args (ps.zip us) → Vals vs us → sp vs H Q E →
    codeAny (model P w) A (.call (.ref f) args) (CR CX outer P w H s Q E) s
theorem FnOk.mono {P : Program} {w : World} {K : PySem.W.Frag} {mg : Str → Option Value} {base : Heap} {CX : CXT} {j k : Nat} {f : Addr} {fd : FuncData} {ps : List Str} {sp : Sp} (F : FnOk P w K mg base CX j f fd ps sp) (h : j ≤ k) :
    FnOk P w K mg base CX k f fd ps sp := ⟨F.len, fun A outer s H args us vs Q E hr => F.run A outer s H args us vs Q E (hr.mono h)⟩
theorem FnOk.imp {P : Program} {w : World} {K : PySem.W.Frag} {mg : Str → Option Value} {base : Heap} {CX : CXT} {k : Nat} {f : Addr} {fd : FuncData} {ps : List Str} {sp sp' : Sp} (F : FnOk P w K mg base CX k f fd ps sp)
    (h : ∀ vs H Q E, sp' vs H Q E → sp vs H Q E) : FnOk P w K mg base CX k f fd ps sp' :=
  ⟨fun vs H Q E q => F.len vs H Q E (h _ _ _ _ q), fun A outer s H args us vs Q E hr he hb hv hs => F.run A outer s H args us vs Q E hr he hb hv (h _ _ _ _ hs)⟩
theorem Env0.in1 {P : Program} {w : World} {K : PySem.W.Frag} {mg : Str → Option Value} {base : Heap} {A : Around} {outer : List Env} {s : Shared} {H : Hp} (e : Env0 P w K mg base A outer s H) :
    Env0 P w K mg base A.in1 outer s H := ⟨e.frames, e.mod, e.bs, e.bsz, e.funs, e.frf, e.hok, e.bare⟩
section
variable {X : Cx} {pins : List (Addr × Obj)} {σ : St} {H : Hp} {s s' : Shared}
theorem Inv.env0 (I : Inv X pins σ H s) : Env0 X.prog X.w X.K X.mg X.base X.A X.stack s H :=
  ⟨I.ok.frames, I.ok.mod, I.bs, Nat.le_trans I.ok.bsz I.sz, I.stack, I.stkFree, I.hok, I.bare⟩
theorem Inv.after {Q : VK} {u : Value} (I : Inv X pins σ H s) (h : CE X.stack X.prog X.w H s Q u s') : EP X pins σ Q u s' := by
  obtain ⟨v, H', os, bare, un, hok, r, q⟩ := h
  obtain ⟨hh, g, d, t, os'⟩ := s'
  obtain rfl : os' = s.os := os
  exact ⟨v, H', I.call (h' := hh) (g' := g) (d' := d) (t' := t) (ch := []) un hok bare (fun b z => absurd z (by simp)), r, q⟩
end
def tCall (sp : Sp) (dvs : List V) (E : XK) (t : TA) : TE := fun σ H Q => t σ H fun vs H1 => sp (vs ++ dvs) H1 Q E
def Binds (K : PySem.W.Frag) (fd : FuncData) (ps : List Str) (ds : List Value) : Prop :=
  ∀ (s : Shared) (us : List Value), K.In s.heap → (us ++ ds).length = ps.length → BindsTo s fd ⟨us, []⟩ (ps.zip (us ++ ds))
theorem Binds.all {K : PySem.W.Frag} {fd : FuncData} {ps : List Str} (h : ∀ us : List Value, us.length = ps.length → bindArgs fd ⟨us, []⟩ = pure (ps.zip us)) : Binds K fd ps [] := fun s us _ hl => by
  rw [List.append_nil] at hl ⊢
  exact .of_eq (h us hl)
def Passes (CX : CXT) (X : Cx) (E : XK) : Prop := ∀ (pins : List (Addr × Obj)) (σ : St) (H : Hp) (s : Shared) (e : Value) (s' : Shared), Inv X pins σ H s → CX X.stack H s E e s' → X.xe e s'
section
variable {X : Cx} {CX : CXT} {k : Nat} {f C : Addr} {fd : FuncData} {ps : List Str} {sp : Sp} {dvs : List V} {ds : List Value} {E : XK} {x m : Str} {p pos apos : Pos} {e o : Expr} {es : List Expr} {ta : TE} {t : TA}
theorem run_fn {pins : List (Addr × Obj)} {σ : St} {H : Hp} {s : Shared} {Q : VK} {us : List Value} {vs : List V} (F : FnOk X.prog X.w X.K X.mg X.base CX k f fd ps sp) (hr : Room k X.A) (hb : Binds X.K fd ps ds) (hd : Vals dvs ds) (hx : Passes CX X E)
    (I : Inv X pins σ H s) (r : Vals vs us) (h : sp (vs ++ dvs) H Q E) : wpAny (model X.prog X.w) X.A (call (.ref f) us) (EP X pins σ Q) X.xe s := by
  have r2 : Vals (vs ++ dvs) (us ++ ds) := r.append hd
  have hl : (us ++ ds).length = ps.length := by rw [← r2.length]; exact F.len _ _ _ _ h
  refine wpAny_call (codeAny_mono (F.run X.A X.stack s H ⟨us, []⟩ (us ++ ds) (vs ++ dvs) Q E hr I.env0 (hb s us I.kIn hl) r2 h) fun r s' hq => ?_)
  cases r with
  | error e => exact hx pins σ H s e s' I hq
  | ok fl =>
    cases fl with
    | ret u => exact I.after hq
    | next => exact False.elim hq
    | brk => exact False.elim hq
    | cont => exact False.elim hq
theorem pe_call (F : FnOk X.prog X.w X.K X.mg X.base CX k f fd ps sp) (hr : Room k X.A) (hg : Gl X x) (hm : X.mg x = some (.ref f)) (hk : PySem.W.keepIn X.K (.ref f) = true) (hb : Binds X.K fd ps ds) (hd : Vals dvs ds) (hx : Passes CX X E)
    (ha : PA X (e :: es) t) (hdb : (x == ("__debug__" : Str)) = false := by decide) (he : starEach (e :: es) X.env = (false, eval e X.env) :: starEach es X.env := by rfl) (hpl : (backTo pos (starEach es X.env)).any (·.1) = false := by rfl) :
    PE X (.Call (.Name x p) (e :: es) [] pos) (tCall sp dvs E t) := by
  intro pins s σ H Q I h
  refine wpAny_Call_Name_kw (ld_glob I hg hm ?_ hdb)
  refine PySem.W.callWith_K (h₀ := X.base) I.ok.mod.kin hk (thn (ha pos pins s σ H _ I h) fun us s1 ⟨vs, H1, I1, r, q⟩ => ⟨I1.kIn, ?_⟩) he hpl
  exact run_fn F hr hb hd hx I1 r q
end
def PK (X : Cx) (kws : List Keyword) (t : TA) : Prop :=
  ∀ (pos : Pos) (pins : List (Addr × Obj)) (s : Shared) (σ : St) (H : Hp) (Q : List V → Hp → Prop), Inv X pins σ H s → t σ H Q → wpAny (model X.prog X.w) X.A (evalAll ((backToKw pos (keywordEach kws X.env)).map (·.2))) (AP X pins σ Q) X.xe s
section
variable {X : Cx} {CX : CXT} {k : Nat} {f C : Addr} {fd : FuncData} {ps ks : List Str} {sp : Sp} {E : XK} {x m : Str} {p pos apos kpos : Pos} {e o : Expr} {es : List Expr} {kws : List Keyword} {te ta : TE} {t tk : TA} {nm : Option Str}
theorem pk_nil : PK X [] tNil := fun _ _ _ _ H Q I h => wpAny_evalAll_nil ⟨[], H, I, .nil, h⟩
theorem pk_cons (ha : PE X e te) (hr : PK X kws t) : PK X (⟨nm, e, kpos⟩ :: kws) (tCons te t) := by
  intro pos pins s σ H Q I h
  show wpAny _ _ (evalAll ((do let v ← eval e X.env; standAt pos; pure v) :: (backToKw pos (keywordEach kws X.env)).map (·.2))) _ _ s
  refine wpAny_evalAll_cons (wpAny_bind (thn (ha pins s σ H _ I h) fun u s1 ⟨x, H1, I1, r1, q1⟩ => wpAny_bind (wpAny_standAt (wpAny_pure ?_))))
  exact thn (hr pos pins s1 σ H1 _ I1 q1) fun us s2 ⟨xs, H2, I2, r2, q2⟩ => ⟨x :: xs, H2, I2, .cons r1 r2, q2⟩
variable {g : List Value → List Value → List Value} {gV : List V → List V → List V}
end
structure FnScope (N P : List Str) (sc : Scope) : Prop where
  kind : sc.kind = .function
  co : sc.isCoroutine = false
  gen : sc.isGenerator = false
  nd : N.Nodup
  pre : N.take P.length = P
  par : ∀ x ∈ P, sc.names.lookup x = some .local ∨ sc.names.lookup x = some .cell
  nofree : ∀ y ∈ sc.names, y.2 ≠ .free
theorem bindL_out {kindOf : Str → Option NameKind} {x : Str} : ∀ {binds : List (Str × Value)} {m : Str → Option Value}, (∀ v, (x, v) ∉ binds) → bindL kindOf binds m x = m x
  | [], _, _ => rfl
  | (n, v) :: r, m, h => by
    unfold bindL
    rw [bindL_out fun w hw => h w (List.mem_cons_of_mem _ hw)]
    split
    · have : x ≠ n := by rintro rfl; exact h v List.mem_cons_self
      simp [this]
    · rfl
theorem bindC_out {kindOf : Str → Option NameKind} {x : Str} : ∀ {binds : List (Str × Value)} {m : Str → Option Value}, (∀ v, (x, v) ∉ binds) → bindC kindOf binds m x = m x
  | [], _, _ => rfl
  | (n, v) :: r, m, h => by
    unfold bindC
    rw [bindC_out fun w hw => h w (List.mem_cons_of_mem _ hw)]
    split
    · rfl
    · have : x ≠ n := by rintro rfl; exact h v List.mem_cons_self
      simp [this]
theorem bindL_get {kindOf : Str → Option NameKind} {x : Str} {v : Value} : ∀ {P : List Str} {vs : List Value} {i : Nat} {m : Str → Option Value}, P.Nodup → P[i]? = some x → vs[i]? = some v → kindOf x = some .local →
    bindL kindOf (P.zip vs) m x = some v
  | [], _, _, _, _, h, _, _ => by simp at h
  | _ :: _, [], _, _, _, _, h, _ => by simp at h
  | p :: P, w :: vs, 0, m, nd, h1, h2, hk => by
    simp at h1 h2; subst h1; subst h2
    show bindL kindOf ((p, w) :: P.zip vs) m p = _
    unfold bindL
    rw [bindL_out fun v hv => (List.nodup_cons.mp nd).1 (List.of_mem_zip hv).1, if_pos hk]
    simp
  | p :: P, w :: vs, i + 1, m, nd, h1, h2, hk => by
    show bindL kindOf ((p, w) :: P.zip vs) m x = _
    unfold bindL
    exact bindL_get (i := i) (List.nodup_cons.mp nd).2 (by simpa using h1) (by simpa using h2) hk
theorem bindC_get {kindOf : Str → Option NameKind} {x : Str} {v : Value} : ∀ {P : List Str} {vs : List Value} {i : Nat} {m : Str → Option Value}, P.Nodup → P[i]? = some x → vs[i]? = some v → kindOf x ≠ some .local →
    bindC kindOf (P.zip vs) m x = some v
  | [], _, _, _, _, h, _, _ => by simp at h
  | _ :: _, [], _, _, _, _, h, _ => by simp at h
  | p :: P, w :: vs, 0, m, nd, h1, h2, hk => by
    simp at h1 h2; subst h1; subst h2
    show bindC kindOf ((p, w) :: P.zip vs) m p = _
    unfold bindC
    rw [bindC_out fun v hv => (List.nodup_cons.mp nd).1 (List.of_mem_zip hv).1, if_neg hk]
    simp
  | p :: P, w :: vs, i + 1, m, nd, h1, h2, hk => by
    show bindC kindOf ((p, w) :: P.zip vs) m x = _
    unfold bindC
    exact bindC_get (i := i) (List.nodup_cons.mp nd).2 (by simpa using h1) (by simpa using h2) hk
def start (N : List Str) (vs : List V) : St := vs.map some ++ List.replicate (N.length - vs.length) none
def cxOf (CX : CXT) (P : Program) (w : World) (K : PySem.W.Frag) (mg : Str → Option Value) (base : Heap) (N : List Str) (qual : Str) (scope : Scope) (f : Addr) (cd : Value) (A : Around) (outer : List Env) (s : Shared) (H : Hp) (E : XK) : Cx where
  prog := P
  w := w
  K := K
  mg := mg
  base := base
  A := A.deeper (envOfC qual scope s.heap.objs.size f cd)
  N := N
  s₀ := s
  H₀ := H
  env := envOfC qual scope s.heap.objs.size f cd
  outer := outer
  stack := envOfC qual scope s.heap.objs.size f cd :: outer
  ex := []
  calm := true
  fn := fun _ => true
  pn := []
  xe := fun e s' => wpAny (model P w) (A.deeper (envOfC qual scope s.heap.objs.size f cd)) (leaving (envOfC qual scope s.heap.objs.size f cd) e) (fun _ s'' => CX outer H s E e s'') (fun e' s'' => CX outer H s E e' s'') s'
theorem cell_has {sc : Scope} {n : Nat} {x : Str} (h : sc.names.lookup x = some .cell) : ∃ c, (cellsFrom n sc.names []).lookup x = some c := by
  have q := PySem.W.cellsFrom_some sc.names n [] (.inl h)
  exact Option.isSome_iff_exists.mp q
theorem inv_start {CX : CXT} {P : Program} {w : World} {K : PySem.W.Frag} {mg : Str → Option Value} {base : Heap} {N ps : List Str} {qual : Str} {scope : Scope} {f : Addr} {cd : Value} {A : Around} {outer : List Env} {s s1 : Shared} {H : Hp} {E : XK} {us : List Value} {vs : List V}
    (S : FnScope N ps scope) (hd : A.handled = none) (e0 : Env0 P w K mg base A outer s H) (hl : vs.length = ps.length) (r : Vals vs us)
    (x : InCallC s s.heap.objs.size (bindL (envOfC qual scope s.heap.objs.size f cd).kindOf (ps.zip us) fun _ => none) (cellsFrom (s.heap.objs.size + 1) scope.names []) (bindC (envOfC qual scope s.heap.objs.size f cd).kindOf (ps.zip us) fun _ => none) s1) :
    Inv (cxOf CX P w K mg base N qual scope f cd A outer s H E) [] (start N vs) H s1 := by
  have hpl : ps.length ≤ N.length := by have := congrArg List.length S.pre; rw [List.length_take] at this; omega
  obtain ⟨h1, tk, rfl, hk⟩ := x.done
  have noA : ∀ b : Addr, b ∉ (cxOf CX P w K mg base N qual scope f cd A outer s H E).ex := fun b z => absurd (show b ∈ ([] : List Addr) from z) (by simp)
  refine ⟨⟨e0.mod, S.kind, rfl, rfl, Nat.le_refl _, fun y z c h1 h2 => ?_, fun y hy => ?_, fun y c _ h => ?_, fun _ => hd, Around.frames_deeper e0.frames, .inr ⟨rfl, rfl⟩, fun b z => absurd z (noA b), e0.bs, e0.bsz, fun b _ _ => noA b, fun b z => absurd z (noA b), e0.funs, e0.frf⟩,
    rfl, e0.bare, Un.kept hk, ⟨_, x.toInCall.ns, fun i y v h1 h2 h3 => ?_⟩, fun y c h => ⟨_, x.cell y c h⟩, e0.hok.fresh (Nat.le_refl _), fun y c h => ?_, fun p hp => absurd (show p ∈ ([] : List (Addr × Obj)) from hp) (by simp), e0.hok.kept hk, ?_⟩
  · exact name_of_addr x.apart (PySem.mem_of_lookup h1) (PySem.mem_of_lookup h2)
  · have hy : scope.names.lookup y = some .cell ∨ scope.names.lookup y = some .free := hy
    rcases hy with hy | hy
    · exact cell_has hy
    · exact absurd rfl (S.nofree _ (PySem.mem_of_lookup hy))
  · exact Nat.le_of_lt (x.above y c (PySem.mem_of_lookup h))
  · have hi : i < vs.length := by
      unfold start at h2
      by_cases hi : i < vs.length
      · exact hi
      · rw [List.getElem?_append_right (by simpa using hi)] at h2
        rw [List.getElem?_replicate] at h2
        split at h2 <;> cases h2
    have ha : vs[i]? = some v := by
      unfold start at h2
      rw [List.getElem?_append_left (by simpa using hi), List.getElem?_map] at h2
      cases e : vs[i]? with
      | none => rw [e] at h2; cases h2
      | some a => rw [e] at h2; cases h2; rfl
    obtain ⟨u, hu, rv⟩ := r.get ha
    have hp : ps[i]? = some y := by
      rw [← S.pre, List.getElem?_take_of_lt (by omega)]; exact h1
    have ndP : ps.Nodup := by rw [← S.pre]; exact S.nd.sublist (List.take_sublist _ _)
    refine ⟨u, rv, ?_⟩
    rcases S.par y (List.mem_of_getElem? hp) with k | k
    · exact .inl ⟨k, bindL_get ndP hp hu k⟩
    · obtain ⟨c, e⟩ := cell_has (n := s.heap.objs.size + 1) k
      refine .inr ⟨.inl k, c, e, ?_⟩
      have q := x.cell y c e
      rw [bindC_get ndP hp hu (by show scope.names.lookup y ≠ _; rw [k]; decide)] at q
      exact q
  · exact e0.hok.fresh (Nat.le_of_lt (x.above y c (PySem.mem_of_lookup h)))
  · unfold start
    show _ = N.length
    rw [List.length_append, List.length_map, List.length_replicate]
    omega
theorem fn_of {CX : CXT} {P : Program} {w : World} {K : PySem.W.Frag} {mg : Str → Option Value} {base : Heap} {k : Nat} {f : Addr} {name qual : Str} {params : Arguments} {body : List Stmt} {scope : Scope} {dV kV doc pm cdv ct oc : Value} {an od : Option Addr}
    {osl : Array (Option Value)} {N ps : List Str} {sp : Sp} (lk : K.lookup f = some ⟨oc, od, .func (PySem.W.fnOf name qual params body scope dV kV doc pm an cdv ct), osl⟩) (hcd : PySem.W.codeIn K cdv qual = true) (S : FnScope N ps scope)
    (len : ∀ vs H Q E, sp vs H Q E → vs.length = ps.length)
    (hbody : ∀ (A : Around) (outer : List Env) (s : Shared) (H : Hp) (vs : List V) (Q : VK) (E : XK), Room k (A.deeper (envOfC qual scope s.heap.objs.size f cdv)) → sp vs H Q E →
      ∃ t, PSs (cxOf CX P w K mg base N qual scope f cdv A outer s H E) body t ∧ t { nx := fun _ H' => Q .non H', rt := Q } (start N vs) H) :
    FnOk P w K mg base CX (k + 1) f (PySem.W.fnOf name qual params body scope dV kV doc pm an cdv ct) ps sp := by
  refine ⟨len, fun A outer s H args us vs Q E hr e0 hb r hsp => ?_⟩
  have hl := len _ _ _ _ hsp
  have KX : K.In s.heap := e0.mod.kin.keeps fun b o e => (e0.bs b o e).1
  have lim : s.heap.NoLimit := e0.mod.nolimit.keeps fun b o e => (e0.bs b o e).1
  have hkind : ∀ y ∈ ps.zip us, scope.names.lookup y.1 = some .local ∨ (scope.names.lookup y.1 = some .cell ∧ ((cellsFrom (s.heap.objs.size + 1) scope.names []).lookup y.1).isSome = true) := fun ⟨n, v⟩ hy => by
    rcases S.par n (List.of_mem_zip hy).1 with q | q
    · exact .inl q
    · exact .inr ⟨q, PySem.W.cellsFrom_some _ _ _ (.inl q)⟩
  refine codeAny_call_function hr.depth (KX _ _ lk) rfl S.co S.gen rfl (PySem.W.codeRec_of KX hcd) (hb _ _ _ _ ?_)
  refine wpAny_newFunctionEnv_cells S.kind hkind fun env he s1 x => ?_
  subst he
  refine ⟨lim.keeps x.toInCall.keep, codeAny_func ?_⟩
  obtain ⟨t, ht, hq⟩ := hbody A outer s H vs Q E (hr.deeper _) hsp
  have I : Inv (cxOf CX P w K mg base N qual scope f cdv A outer s H E) [] (start N vs) H s1 := inv_start S hr.hd e0 hl r x
  refine wpAny_mono (ht [] s1 (start N vs) H _ I hq) (fun fl s' hs => ?_) fun e s' hs => hs
  have fin : ∀ {σ' : St} {H' : Hp} {v : V} {u : Value}, Inv (cxOf CX P w K mg base N qual scope f cdv A outer s H E) [] σ' H' s' → RelV v u → Q v H' → CE outer P w H s Q u s' :=
    fun {σ' H' v u} J rv q => ⟨v, H', J.os, J.bare, J.base, J.hok, rv, q⟩
  cases fl with
  | ret u =>
    obtain ⟨v, σ', H', J, rv, q⟩ := hs
    exact fin J rv q
  | next =>
    obtain ⟨σ', H', J, q⟩ := hs
    exact fin (v := V.non) (u := Value.none) J rfl q
  | brk =>
    obtain ⟨_, _, _, q⟩ := hs
    exact False.elim q
  | cont =>
    obtain ⟨_, _, _, q⟩ := hs
    exact False.elim q
end L2
namespace L2
open PySem PySem.Spec PyProof.Rows
section
variable {X : Cx} {x : Str} {p pos : Pos} {e : Expr} {es : List Expr} {t : TA} {id T : String} {r : List V → Hp → VK → Prop}
def tCB (r : List V → Hp → VK → Prop) (t : TA) : TE := fun σ H Q => t σ H fun vs H1 => r vs H1 Q
theorem pe_callB (hc : CallR X (.builtin id) r) (hg : Gl X x) (hm : X.mg x = none) (hv : bootBuiltins x = some (.builtin id)) (ha : PA X (e :: es) t) (hn : x ≠ "__name__" := by decide) (hdb : (x == ("__debug__" : Str)) = false := by decide)
    (he : starEach (e :: es) X.env = (false, eval e X.env) :: starEach es X.env := by rfl) (hpl : (backTo pos (starEach es X.env)).any (·.1) = false := by rfl) : PE X (.Call (.Name x p) (e :: es) [] pos) (tCB r t) := by
  intro pins s σ H Q I h
  refine wpAny_Call_Name_kw (ld_blt I hg hm hv ?_ hn hdb)
  exact PyProof.Rows.callWith_builtin1 (thn (ha pos pins s σ H _ I h) fun us s1 ⟨vs, H1, I1, r1, q1⟩ => hc pins s1 σ H1 vs us Q I1 r1 q1) he hpl
theorem pe_callTy (hc : CallR X (.type T) r) (hg : Gl X x) (hm : X.mg x = none) (hv : bootBuiltins x = some (.type T)) (ha : PA X (e :: es) t) (hn : x ≠ "__name__" := by decide) (hdb : (x == ("__debug__" : Str)) = false := by decide)
    (he : starEach (e :: es) X.env = (false, eval e X.env) :: starEach es X.env := by rfl) (hpl : (backTo pos (starEach es X.env)).any (·.1) = false := by rfl) : PE X (.Call (.Name x p) (e :: es) [] pos) (tCB r t) := by
  intro pins s σ H Q I h
  refine wpAny_Call_Name_kw (ld_blt I hg hm hv ?_ hn hdb)
  exact PyProof.Rows.callWith_type1 (thn (ha pos pins s σ H _ I h) fun us s1 ⟨vs, H1, I1, r1, q1⟩ => hc pins s1 σ H1 vs us Q I1 r1 q1) he hpl
end
end L2
namespace HT
open PySem PyProof.Rows
def lexLt : List Int → List Int → Bool
  | [], [] => false
  | [], _ :: _ => true
  | _ :: _, [] => false
  | x :: xs, y :: ys => if x = y then lexLt xs ys else decide (x < y)
theorem lexLt_cons (x y : Int) (xs ys : List Int) : lexLt (x :: xs) (y :: ys) = if x = y then lexLt xs ys else decide (x < y) := rfl
theorem eqAt_int (A : Around) (s : Shared) (a : Int) (t : Tok) (c : Int) (u : Tok) : ∃ e, SeqAt.EqAt A s (.int a t) (.int c u) e ∧ (e = true ↔ a = c) :=
  ⟨(a == c), SeqAt.EqAt.int_int a t c u, by simp⟩
section
open PySem.SeqAt
open PySem.AutoSeq1 (wpAny_loadPart')
open PySem.MeetsSeq PySem.MeetsSeq2 PySem.MeetsSeq3
end
section
variable {prog : Program} {w : World} {A : Around} {E : Value → Shared → Prop} {s : Shared}
def sIx (n d : Nat) : Option Int → Nat
  | none => d
  | some v => if v < 0 then (v + (n : Int)).toNat else min v.toNat n
end
end HT
namespace L2
open PySem PySem.Spec PyProof.Rows
abbrev TO := St → Hp → (Option Int → Hp → Prop) → Prop
def PO (X : Cx) (e : Option Expr) (t : TO) : Prop :=
  ∀ (pins : List (Addr × Obj)) (s : Shared) (σ : St) (H : Hp) (Q : Option Int → Hp → Prop), Inv X pins σ H s → t σ H Q →
    wpAny (model X.prog X.w) X.A (evalPart e X.env) (fun u s' => ∃ o H', Inv X pins σ H' s' ∧ IsPart u o ∧ Q o H') X.xe s
def tNoPart : TO := fun _ H Q => Q none H
def tPart (t : TE) : TO := fun σ H Q => t σ H fun x H1 => ∃ i, x = .int i ∧ Q (some i) H1
theorem intsAre_of {ns : List Int} : ∀ {us : List Value}, Vals (ns.map V.int) us → IntsAre us ns := by
  induction ns with
  | nil => intro us r; rw [List.map_nil] at r; cases r; exact .nil
  | cons n ns ih =>
    intro us r
    rw [List.map_cons] at r
    cases r with
    | cons r1 r2 =>
      obtain ⟨t, e⟩ := r1
      subst e
      exact .cons n t (ih r2)
section
variable {X : Cx} {e : Expr} {te : TE} {lo hi : Option Expr} {tl th : TO} {pos p2 : Pos}
def SlR (X : Cx) (r : V → Option Int → Option Int → Hp → VK → Prop) : Prop :=
  ∀ (pins : List (Addr × Obj)) (s : Shared) (σ : St) (H : Hp) (x : V) (v vl vu : Value) (lo hi : Option Int) (sl : Addr) (Q : VK), Inv X pins σ H s → RelV x v → s.heap.IsSliceOf sl vl vu .none → IsPart vl lo → IsPart vu hi → r x lo hi H Q →
    ∃ T id, typeLookup (.type T) "__getitem__" = pure (some (.builtin id)) ∧ s.TypeIs v T ∧ wpAny (model X.prog X.w) X.A (getItem v (.ref sl)) (EP X pins σ Q) X.xe s
theorem SlR.or {r r' : V → Option Int → Option Int → Hp → VK → Prop} (h : SlR X r) (h' : SlR X r') : SlR X (fun x lo hi H Q => r x lo hi H Q ∨ r' x lo hi H Q) := by
  intro pins s σ H x v vl vu lo hi sl Q I rx hs pl pu q
  rcases q with q | q
  · exact h pins s σ H x v vl vu lo hi sl Q I rx hs pl pu q
  · exact h' pins s σ H x v vl vu lo hi sl Q I rx hs pl pu q
def tSl (r : V → Option Int → Option Int → Hp → VK → Prop) (te : TE) (tl th : TO) : TE := fun σ H Q => te σ H fun x H1 => tl σ H1 fun l H2 => th σ H2 fun u H3 => r x l u H3 Q
def cutV (xs : List V) (lo hi : Option Int) : List V := (xs.drop (HT.sIx xs.length 0 lo)).take (HT.sIx xs.length xs.length hi - HT.sIx xs.length 0 lo)
end
end L2
namespace L2
open PySem PySem.Spec PyProof.Rows
def ixN (n : Nat) (i : Int) : Option Nat := if 0 ≤ i then (if i < n then some i.toNat else none) else if -(n : Int) ≤ i then some (i + n).toNat else none
def atI {α : Type} (xs : List α) (i : Int) : Option α := (ixN xs.length i).bind fun j => xs[j]?
theorem ixN_seq {n : Nat} {i : Int} {j : Nat} (h : ixN n i = some j) : seqIndex? i n = some j ∧ j < n ∧ -(n : Int) ≤ i ∧ i < n := by
  unfold ixN at h
  by_cases h0 : 0 ≤ i
  · rw [if_pos h0] at h
    by_cases h1 : i < n
    · rw [if_pos h1] at h
      have e : i.toNat = j := Option.some.inj h
      exact ⟨by rw [seqIndex_of h0 h1, e], by omega, by omega, h1⟩
    · rw [if_neg h1] at h; cases h
  · rw [if_neg h0] at h
    by_cases h1 : -(n : Int) ≤ i
    · rw [if_pos h1] at h
      have e : (i + n).toNat = j := Option.some.inj h
      exact ⟨by rw [seqIndex_neg (by omega) h1, e], by omega, h1, by omega⟩
    · rw [if_neg h1] at h; cases h
theorem atI_get {α : Type} {xs : List α} {i : Int} {v : α} (h : atI xs i = some v) : ∃ j, seqIndex? i xs.length = some j ∧ xs[j]? = some v ∧ j < xs.length ∧ -(xs.length : Int) ≤ i ∧ i < xs.length := by
  unfold atI at h
  cases e : ixN xs.length i with
  | none => rw [e] at h; cases h
  | some j =>
    rw [e] at h
    obtain ⟨h1, h2, h3, h4⟩ := ixN_seq e
    exact ⟨j, h1, h, h2, h3, h4⟩
theorem atI_nat {α : Type} {xs : List α} {j : Nat} {v : α} (h : xs[j]? = some v) : atI xs (j : Int) = some v := by
  have hj : j < xs.length := (List.getElem?_eq_some_iff.mp h).1
  have e : ixN xs.length (j : Int) = some j := by
    unfold ixN
    rw [if_pos (by omega), if_pos (by omega)]; simp
  unfold atI; rw [e]; exact h
def PlainIx (b : Expr) : Prop := ∀ o i, subscripted b false o i = operate [o, i] (getItem o i)
def IxR (X : Cx) (r : R2) : Prop :=
  ∀ (value slice : Expr) (pins : List (Addr × Obj)) (s : Shared) (σ : St) (H : Hp) (x y : V) (v u : Value) (Q : VK), Inv X pins σ H s → RelV x v → RelV y u → r x y H Q →
    subscripted slice false v u = operate [v, u] (getItem v u) → wpAny (model X.prog X.w) X.A (subscriptTail value slice v u) (EP X pins σ Q) X.xe s
def MtR (X : Cx) (id : String) (r : V → List V → Hp → VK → Prop) : Prop :=
  ∀ (pins : List (Addr × Obj)) (s : Shared) (σ : St) (H : Hp) (x : V) (xs : List V) (v : Value) (us : List Value) (Q : VK), Inv X pins σ H s → RelV x v → Vals xs us → r x xs H Q →
    wpAny (model X.prog X.w) X.A (call (.builtin id) (v :: us)) (EP X pins σ Q) X.xe s
section
variable {X : Cx} {a b : Expr} {ta tb : TE} {pos : Pos}
theorem IxR.or {r r' : R2} (h : IxR X r) (h' : IxR X r') : IxR X (fun x y H Q => r x y H Q ∨ r' x y H Q) := by
  intro value slice pins s σ H x y v u Q I rx ry q hs
  rcases q with q | q
  · exact h value slice pins s σ H x y v u Q I rx ry q hs
  · exact h' value slice pins s σ H x y v u Q I rx ry q hs
theorem MtR.or {id : String} {r r' : V → List V → Hp → VK → Prop} (h : MtR X id r) (h' : MtR X id r') : MtR X id (fun x xs H Q => r x xs H Q ∨ r' x xs H Q) := by
  intro pins s σ H x xs v us Q I rx rs q
  rcases q with q | q
  · exact h pins s σ H x xs v us Q I rx rs q
  · exact h' pins s σ H x xs v us Q I rx rs q
theorem pe_ix {r : R2} (hr : IxR X r) (ha : PE X a ta) (hb : PE X b tb) (hs : PlainIx b) : PE X (.Subscript a b pos) (tOp r ta tb) := by
  intro pins s σ H Q I h
  exact Subscript_ (binT ha hb I h fun v u s2 x y H2 I2 rx ry q => hr a b pins s2 σ H2 x y v u Q I2 rx ry q (hs _ _))
def rIxL (K : PySem.W.Frag) : R2 := fun x y H Q => ∃ p xs i v, x = .ref p ∧ y = .int i ∧ SqL K H p xs ∧ atI xs i = some v ∧ Q v H
def rIxT (K : PySem.W.Frag) : R2 := fun x y H Q => ∃ p xs i v, x = .ref p ∧ y = .int i ∧ SqT K H p xs ∧ atI xs i = some v ∧ Q v H
theorem ix_list : IxR X (rIxL X.K) := by
  intro value slice pins s σ H x y v u Q I rx ry h hs
  obtain ⟨p, xs, i, z, rfl, rfl, hq, he, q⟩ := h
  cases rx
  obtain ⟨t, rfl⟩ := ry
  obtain ⟨its, r, pl, hz⟩ := I.list hq
  obtain ⟨j, h1, h2, h3, h4, h5⟩ := atI_get he
  obtain ⟨w, ew, rw'⟩ := r.get h2
  have hl := r.length
  have hn := line63
  have fin : EP X pins σ Q w s := ⟨z, H, I, rw', q⟩
  by_cases h0 : 0 ≤ i
  · have hj : i.toNat = j := by
      rw [seqIndex_of h0 h5] at h1
      exact Option.some.inj h1
    exact item_listR pl.isList h0 (by omega) (by rw [hj]; simpa using ew) fin hs
  · have hj : (i + (its.toArray.size : Int)).toNat = j := by
      rw [seqIndex_neg (by omega) h4] at h1
      rw [List.size_toArray, ← hl]
      exact Option.some.inj h1
    exact subscriptTail_builtinR (x := w) pl.isList.typeIs slot_list_getitem.lookup
      (wpAny_getItem_list_neg (Q := fun r s' => r = w ∧ EP X pins σ Q r s') pl.isList (by omega) (by rw [List.size_toArray] <;> omega) (by omega) (by rw [hj]; simpa using ew) ⟨rfl, fin⟩) hs
theorem ix_tup : IxR X (rIxT X.K) := by
  intro value slice pins s σ H x y v u Q I rx ry h hs
  obtain ⟨p, xs, i, z, rfl, rfl, hq, he, q⟩ := h
  cases rx
  obtain ⟨t, rfl⟩ := ry
  obtain ⟨its, r, pl, hz⟩ := I.tuple hq
  obtain ⟨j, h1, h2, h3, h4, h5⟩ := atI_get he
  obtain ⟨w, ew, rw'⟩ := r.get h2
  have hl := r.length
  have hn := line63
  have fin : EP X pins σ Q w s := ⟨z, H, I, rw', q⟩
  exact subscriptTail_builtinR (x := w) pl.typeIs slot_tuple_getitem.lookup
    (getItem_tuple (j := j) (Q := fun r s' => r = w ∧ EP X pins σ Q r s') pl (by omega) (by omega) (by rw [List.size_toArray, ← hl]; exact h1) (by simpa using ew) ⟨rfl, fin⟩) hs
theorem Inv.lst {pins : List (Addr × Obj)} {σ : St} {H : Hp} {s : Shared} {p : Addr} {xs : List V} (I : Inv X pins σ H s) (h : H p = some (.lst xs)) :
    ∃ (its : List Value) (n : Nat), Vals xs its ∧ s.heap.get? p = some { cls := .type "list", data := .seq its.toArray n } ∧ xs.length ≤ sizeLine := by
  obtain ⟨z, its, n, r, e⟩ := I.hok p _ h
  exact ⟨its, n, r, e, z⟩
def rSetL : V → V → V → Hp → (Hp → Prop) → Prop := fun o i v H Q => ∃ p xs k j, o = .ref p ∧ i = .int k ∧ H p = some (.lst xs) ∧ ixN xs.length k = some j ∧ Q (upd H p (.lst (xs.set j v)))
theorem call_len_seq : CallR X (.builtin "len") (fun xs H Q => ∃ p ys, xs = [.ref p] ∧ (SqL X.K H p ys ∨ SqT X.K H p ys) ∧ Q (.int ys.length) H) := by
  intro pins s σ H xs us Q I r h
  obtain ⟨p, ys, rfl, hq, q⟩ := h
  obtain ⟨u, rfl, rx⟩ := vals1 r
  cases rx
  have hn := line63
  rcases hq with hq | hq
  · obtain ⟨its, r', pl, hz⟩ := I.list hq
    have hlen := r'.length
    exact Calls.call_len_list pl.isList (by simp only [List.size_toArray] <;> omega) ⟨.int ys.length, H, I.tok _, ⟨s.toks + 1, by rw [List.size_toArray, hlen]⟩, q⟩
  · obtain ⟨its, r', pl, hz⟩ := I.tuple hq
    have hlen := r'.length
    exact len_tuple pl (by simp only [List.size_toArray] <;> omega) ⟨.int ys.length, H, I.tok _, ⟨s.toks + 1, by rw [List.size_toArray, hlen]⟩, q⟩
theorem CallR.or {f : Value} {r r' : List V → Hp → VK → Prop} (h : CallR X f r) (h' : CallR X f r') : CallR X f (fun xs H Q => r xs H Q ∨ r' xs H Q) := by
  intro pins s σ H xs us Q I rs q
  rcases q with q | q
  · exact h pins s σ H xs us Q I rs q
  · exact h' pins s σ H xs us Q I rs q
theorem call_list_of : CallR X (.type "list") (fun xs H Q => ∃ p ys, xs = [.ref p] ∧ (SqL X.K H p ys ∨ SqT X.K H p ys) ∧ ∀ l, H l = none → Q (.ref l) (upd H l (.lst ys))) := by
  intro pins s σ H xs us Q I r h
  obtain ⟨p, ys, rfl, hq, q⟩ := h
  obtain ⟨u, rfl, rx⟩ := vals1 r
  cases rx
  have fin : ∀ (its : List Value), Vals ys its → ys.length ≤ sizeLine → ∀ (h' : Heap) (c' : Nat), (∀ b o', s.heap.get? b = some o' → h'.get? b = some o') →
      h'.get? s.heap.objs.size = some { cls := .type "list", dict := none, data := .seq its.toArray c', slots := #[] } → EP X pins σ Q (.ref s.heap.objs.size) { s with heap := h' } := fun its r' hz h' c' kp e =>
    ⟨.ref s.heap.objs.size, _, I.laid (t' := s.toks) kp (Nat.le_refl _) (show ObjOk X.prog X.w _ h' _ (.lst ys) from ⟨hz, its, c', r', e⟩), rfl, q _ (I.hok.fresh (Nat.le_refl _))⟩
  rcases hq with hq | hq
  · obtain ⟨its, r', pl, hz⟩ := I.list hq
    have hlen := r'.length
    obtain ⟨o, ho, hc, n, hd⟩ := pl.isList
    exact call_list_seq p (.inl rfl) ho hc hd (fun h' c' kp e => fin its r' hz h' c' kp e) (by simp only [List.size_toArray] <;> omega)
  · obtain ⟨its, r', pl, hz⟩ := I.tuple hq
    have hlen := r'.length
    obtain ⟨o, ho, hc, n, hd⟩ := pl
    exact call_list_seq p (.inr rfl) ho hc hd (fun h' c' kp e => fin its r' hz h' c' kp e) (by simp only [List.size_toArray] <;> omega)
def tyV (K : PySem.W.Frag) (T : String) (x : V) (H : Hp) : Prop := match x with
  | .str _ => T = "str"
  | .int _ => T = "int"
  | .ref p => (T = "list" ∧ ∃ xs, SqL K H p xs) ∨ (T = "tuple" ∧ ∃ o, K.lookup p = some o ∧ o.cls = .type "tuple" ∧ o.dict = none) ∨
      (T = "dict" ∧ ((∃ kvs, H p = some (.dK kvs)) ∨ ∃ kvs, H p = some (.dT kvs))) ∨ (T = "set" ∧ ∃ S n, H p = some (.set S n))
  | _ => False
theorem tyV_is {pins : List (Addr × Obj)} {σ : St} {H : Hp} {s : Shared} {T : String} {x : V} {v : Value} (I : Inv X pins σ H s) (r : RelV x v) (ty : tyV X.K T x H) :
    s.TypeIs v T ∧ ∀ a, v = .ref a → ∃ ob, s.heap.get? a = some ob ∧ ob.dict = none := by
  cases x with
  | str z =>
    obtain ⟨t, rfl⟩ := r
    cases (show T = "str" from ty)
    exact ⟨typeIs_str s z t, fun _ e => nomatch e⟩
  | int i =>
    obtain ⟨t, rfl⟩ := r
    cases (show T = "int" from ty)
    exact ⟨typeIs_int s i t, fun _ e => nomatch e⟩
  | ref p =>
    cases r
    rcases ty with ⟨rfl, xs, hq⟩ | ⟨rfl, o, hk, hc, hd⟩ | ⟨rfl, hk⟩ | ⟨rfl, S, n, hk⟩
    · obtain ⟨its, _, pl, _⟩ := I.list hq
      refine ⟨pl.isList.typeIs, fun a e => ?_⟩
      cases e
      obtain ⟨o, n, e, c, hd, _⟩ := pl
      exact ⟨o, e, hd⟩
    · refine ⟨⟨o, I.kIn p o hk, hc⟩, fun a e => ?_⟩
      cases e
      exact ⟨o, I.kIn _ o hk, hd⟩
    · have z : ∃ o, s.heap.get? p = some o ∧ o.ExactDict := by
        rcases hk with ⟨kvs, hk⟩ | ⟨kvs, hk⟩
        · obtain ⟨_, _, _, _, o, _, _, e, ex, _⟩ := I.hok p _ hk
          exact ⟨o, e, ex⟩
        · obtain ⟨_, _, _, _, o, _, _, e, ex, _⟩ := I.hok p _ hk
          exact ⟨o, e, ex⟩
      obtain ⟨o, e, ex⟩ := z
      refine ⟨⟨o, e, ex.1⟩, fun a e2 => ?_⟩
      cases e2
      exact ⟨o, e, ex.2.1⟩
    · obtain ⟨o, _, _, _, e, ex, _⟩ := I.hok p _ hk
      refine ⟨⟨o, e, ex.1⟩, fun a e2 => ?_⟩
      cases e2
      exact ⟨o, e, ex.2.1⟩
  | _ => exact False.elim ty
def tBM0 (K : PySem.W.Frag) (T : String) (r : V → List V → Hp → VK → Prop) (to : TE) : TE := fun σ H Q => to σ H fun x H1 => tyV K T x H1 ∧ r x [] H1 Q
def tBM (K : PySem.W.Frag) (T : String) (r : V → List V → Hp → VK → Prop) (to : TE) (t : TA) : TE := fun σ H Q => to σ H fun x H1 => tyV K T x H1 ∧ t σ H1 fun xs H2 => r x xs H2 Q
variable {o e : Expr} {es : List Expr} {to : TE} {t : TA} {name : Str} {apos cpos : Pos} {T id : String} {r : V → List V → Hp → VK → Prop}
theorem pe_bm0 (pa : PlainAttrs T) (slot : Slot T name id) (hty : typeOf (.builtin id) = pure (.type "method_descriptor")) (hm : MtR X id r) (ho : PE X o to)
    (hbase : attributeBase o name X.env (eval o X.env) = eval o X.env := by rfl) (hline : (apos.endLine == cpos.line) = true := by rfl) : PE X (.Call (.Attribute o name apos) [] [] cpos) (tBM0 X.K T r to) := by
  intro pins s σ H Q I h
  refine wpAny_Call_method0_late hbase hline (thn (ho pins s σ H _ I h) fun v s1 ⟨x, H1, I1, r1, ty, q1⟩ => ?_)
  obtain ⟨h1, h2⟩ := tyV_is I1 r1 ty
  exact ⟨T, id, pa, slot, hty, h1, h2, Calls.callWith_builtin rfl (PySem.evalArgs_none (hm pins s1 σ H1 x [] v [] Q I1 r1 .nil q1))⟩
theorem pe_bm (pa : PlainAttrs T) (slot : Slot T name id) (hty : typeOf (.builtin id) = pure (.type "method_descriptor")) (hm : MtR X id r) (ho : PE X o to) (ha : PA X (e :: es) t)
    (hbase : attributeBase o name X.env (eval o X.env) = eval o X.env := by rfl)
    (hfew : ((backTo cpos (starEach (e :: es) X.env)).all (fun x => !x.1) && (backToKw cpos (keywordEach [] X.env)).all (fun x => x.1.isSome)
      && decide ((e :: es).length + ([] : List Keyword).length + (if ([] : List Keyword).isEmpty then 0 else 1) < 30)) = true := by rfl)
    (hline : (apos.endLine == cpos.line) = true := by rfl) (hs : starEach (e :: es) X.env = (false, eval e X.env) :: starEach es X.env := by rfl) (hplain : (backTo cpos (starEach es X.env)).any (·.1) = false := by rfl) :
    PE X (.Call (.Attribute o name apos) (e :: es) [] cpos) (tBM X.K T r to t) := by
  intro pins s σ H Q I h
  refine wpAny_Call_method_late hbase hfew hline rfl (thn (ho pins s σ H _ I h) fun v s1 ⟨x, H1, I1, r1, ty, q1⟩ => ?_)
  obtain ⟨h1, h2⟩ := tyV_is I1 r1 ty
  refine ⟨T, id, pa, slot, hty, h1, h2, ?_⟩
  have hA := ha cpos pins s1 σ H1 _ I1 q1
  rw [hs] at hA ⊢
  refine Calls.callWith_builtin (by show (false || (backTo cpos (starEach es X.env)).any (·.1)) = false; rw [hplain] <;> rfl) (Calls.evalArgs_plain ?_)
  exact thn hA fun us s2 ⟨vs, H2, I2, r2, q2⟩ => hm pins s2 σ H2 x vs v us Q I2 r1 r2 q2
end
end L2
namespace L2
open PySem PySem.Spec PyProof.Rows
def MtM (X : Cx) (id : String) (r : V → List V → Hp → VK → Prop) : Prop :=
  ∀ (pins : List (Addr × Obj)) (s : Shared) (σ : St) (H : Hp) (x : V) (xs : List V) (v : Value) (us : List Value) (Q : VK), Inv X pins σ H s → RelV x v → Vals xs us → r x xs H Q →
    wpAny (model X.prog X.w) X.A (call (.builtin id) (v :: us)) (EP X pins σ Q) X.xe s
theorem Vals.one : ∀ {x : V} {us : List Value}, Vals [x] us → ∃ u, us = [u] ∧ RelV x u
  | _, _, .cons r .nil => ⟨_, rfl, r⟩
theorem Vals.two : ∀ {x y : V} {us : List Value}, Vals [x, y] us → ∃ u v, us = [u, v] ∧ RelV x u ∧ RelV y v
  | _, _, _, .cons r (.cons q .nil) => ⟨_, _, rfl, r, q⟩
theorem Vals.zero : ∀ {us : List Value}, Vals [] us → us = []
  | _, .nil => rfl
theorem Vals.eraseIdx : ∀ {xs : List V} {us : List Value} (i : Nat), Vals xs us → Vals (xs.eraseIdx i) (us.eraseIdx i)
  | _, _, _, .nil => .nil
  | _, _, 0, .cons _ t => t
  | _, _, i + 1, .cons r t => .cons r (Vals.eraseIdx i t)
theorem Vals.reverse {xs : List V} {us : List Value} (h : Vals xs us) : Vals xs.reverse us.reverse := by
  induction h with
  | nil => exact .nil
  | cons r t ih => rw [List.reverse_cons, List.reverse_cons]; exact Vals.append ih (.cons r .nil)
section
variable {X : Cx} {pins : List (Addr × Obj)} {σ : St} {H : Hp} {s : Shared} {l b : Addr} {xs ys zs : List V}
theorem Inv.lset {its its' : List Value} {n : Nat} {f : Array Value → Array Value} {t' : Nat} (I : Inv X pins σ H s) (hH : H l = some (.lst xs))
    (e : s.heap.get? l = some { cls := .type "list", data := .seq its.toArray n }) (hf : f its.toArray = its'.toArray) (hv : Vals ys its') (hz : ys.length ≤ sizeLine) :
    Inv X pins σ (upd H l (.lst ys)) { s with heap := s.heap.update l (Obj.mapSeq f), toks := t' } := by
  have q := PySem.IsL.update e f
  rw [hf] at q
  refine I.write (x := l) (e := l) (by rw [hH]; exact trivial) (.inl rfl) (fun b' u hb hu => (Heap.get?_update_other s.heap (Obj.mapSeq f) (Ne.symm hb)).trans hu) ⟨_, q⟩ ?_
  exact ⟨hz, its', _, hv, q⟩
theorem Inv.lnew {its : List Value} {t' : Nat} (I : Inv X pins σ H s) (hv : Vals ys its) (hz : ys.length ≤ sizeLine) :
    Inv X pins σ (upd H s.heap.objs.size (.lst ys)) { s with heap := s.heap.push { cls := .type "list", data := .seq its.toArray }, toks := t' } :=
  I.laid (fun _ _ q => Heap.get?_push_of_some _ q) (Nat.le_refl _) ⟨hz, its, 0, hv, Heap.get?_push_size _ rfl⟩
theorem Inv.fresh (I : Inv X pins σ H s) : H s.heap.objs.size = none := I.hok.fresh (Nat.le_refl _)
theorem Inv.lstM (I : Inv X pins σ H s) (hH : H l = some (.lst xs)) : xs.length ≤ sizeLine ∧ ∃ (its : List Value) (n : Nat), Vals xs its ∧ xs.length = its.length ∧ s.heap.get? l = some { cls := .type "list", data := .seq its.toArray n } := by
  obtain ⟨z, its, n, r, e⟩ := I.hok l _ hH
  exact ⟨z, its, n, r, r.length, e⟩
theorem notLongL {n : Nat} (h : n ≤ sizeLine) : Builtin.List.listTooLong n = false := by
  unfold Builtin.List.listTooLong
  exact decide_eq_false (by omega)
end
section
variable {X : Cx}
def rAppend : V → List V → Hp → VK → Prop := fun x vs H Q => ∃ l xs y, x = .ref l ∧ vs = [y] ∧ H l = some (.lst xs) ∧ xs.length < sizeLine ∧ Q .non (upd H l (.lst (xs ++ [y])))
theorem mt_append : MtM X "list.append" rAppend := by
  intro pins s σ H x vs v us Q I rx rv h
  obtain ⟨l, xs, y, rfl, rfl, hH, hz, q⟩ := h
  cases rx
  obtain ⟨u, rfl, ru⟩ := rv.one
  obtain ⟨z, its, n, r, hl, e⟩ := I.lstM hH
  refine call_meets F.slot_list_append ⟨_, e, rfl⟩ F.entry_list_append (F.args_list_append_2 _ _) (PySem.list_append l its.toArray n u (by rw [List.size_toArray]; omega)) ⟨e, ?_⟩
  refine ⟨.non, _, I.lset (its' := its ++ [u]) hH e (by simp) (r.append (.cons ru .nil)) ?_, rfl, q⟩
  rw [List.length_append, List.length_singleton]
  omega
def rClear : V → List V → Hp → VK → Prop := fun x vs H Q => ∃ l xs, x = .ref l ∧ vs = [] ∧ H l = some (.lst xs) ∧ Q .non (upd H l (.lst []))
theorem mt_clear : MtM X "list.clear" rClear := by
  intro pins s σ H x vs v us Q I rx rv h
  obtain ⟨l, xs, rfl, rfl, hH, q⟩ := h
  cases rx
  have hus := rv.zero
  subst hus
  obtain ⟨z, its, n, r, hl, e⟩ := I.lstM hH
  refine call_meets F.slot_list_clear ⟨_, e, rfl⟩ F.entry_list_clear (F.args_list_clear_1 _) (AutoSeq1.list_clear_list_0 l its.toArray n (by rw [List.size_toArray]; omega)) ⟨e, ?_⟩
  exact ⟨.non, _, I.lset (its' := []) (ys := []) hH e rfl .nil (Nat.zero_le _), rfl, q⟩
end
section
variable {prog : Program} {w : World} {A : Around} {E : Value → Shared → Prop} {s : Shared}
end
section
variable {X : Cx}
end
end L2
namespace Att
open PySem PySem.W PySem.Calls PyProof.Rows
theorem ints_of_wellAll {P : Params} {h : Heap} : ∀ (ns : List Int) (vs : List Value), WellAll P h vs (ns.map WData.int) → IntsAre vs ns := by
  intro ns
  induction ns with
  | nil =>
    intro vs w
    rw [List.map_nil] at w
    cases w
    exact .nil
  | cons n ns ih =>
    intro vs w
    rw [List.map_cons] at w
    cases w with
    | cons a b =>
      cases a
      exact .cons _ _ (ih _ b)
theorem script_of {l : OpenLaw} {n : Nat} (hn : l.most = some n) {P : Params} {h : Heap} {args : List WData} {vals : List Value}
    (hpre : l.row.toRowW.claim.pre args = true) (hwl : WellAll P h vals args) :
    ∃ a vs ns, vals = [Value.ref a] ∧ args = [WData.list (ns.map WData.int)] ∧ h.get? a = some { cls := .type "list", data := .seq vs.toArray } ∧ IntsAre vs ns ∧ ns.length ≤ n := by
  have hsh : WShape.hasAll [] args [.list .int] = true := (pre_splitW hpre).1
  have hc : l.pre.holds [] { args := args } = true := (pre_splitW hpre).2
  obtain ⟨d, r, rfl, h1, h2⟩ := hasAllW_cons hsh
  obtain rfl := hasAllW_nil h2
  obtain ⟨xs, rfl, h3⟩ := hasW_list h1
  obtain ⟨ns, rfl⟩ := items_int h3
  have hlen : ns.length ≤ n := by
    unfold OpenLaw.pre at hc
    have h4 : (WTm.not (.lt (.lit (.int (n : Int))) (.len (.arg 0)))).holds [] { args := [.list (ns.map .int)] } = true := by
      have h4 := (holds_andW hc).1
      rw [hn] at h4
      exact h4
    have h5 := condW_of h4 (w_not (w_lt w_lit (w_len_list (w_arg rfl))))
    rw [List.length_map] at h5
    refine Nat.le_of_not_lt fun q => ?_
    have q' : (n : Int) < ((ns.length : Nat) : Int) := by omega
    first
      | (rw [decide_eq_true q'] at h5; exact absurd h5 (by decide))
      | (simp at h5; omega)
  cases hwl with
  | cons w1 w2 =>
    cases w2
    cases w1 with
    | list ho hall => exact ⟨_, _, ns, rfl, rfl, ho, ints_of_wellAll ns _ hall, hlen⟩
theorem post_true (l : OpenLaw) (args : List WData) : l.row.toRowW.claim.post args (.bool true) args = true :=
  postW_of (r := l.row.toRowW) (X := (true == true))
    (show WShape.has [] (.bool true) .bool = true by first | rfl | decide | simp [WShape.has, WShape.arms, WShape.armsAll])
    (show (WTm.eq .res (.lit (.bool true))).value [] { args := args, res := some (.bool true), after := args } = some (.bool (true == true)) from w_eq_bool (w_res rfl) w_lit) rfl
theorem attach_call {l : OpenLaw} {n : Nat} {q : Program} {loose : List Str} {XP : (Str → Option Value) → Heap → Prop} {YP : World → Heap → Prop} {d : DefRec}
    (hn : l.most = some n) (hdf : d.params.defaults = [])
    (call : ∀ (w : World) (s₀ s₁ : Shared) (mg mb : Str → Option Value) (fa : Addr) (o : Obj) (pm cd doc : Value) (a : Addr) (vs : List Value) (ns : List Int),
      Ground q loose [] XP w s₀ mg mb s₁.heap → YP w s₁.heap →
      s₁.heap.get? fa = some o → o.data = .func (docDef d.name d.params d.body d.scope pm cd doc) → s₁.heap.CodeRec cd d.name → mg d.name = some (.ref fa) →
      s₁.heap.get? a = some { cls := .type "list", data := .seq vs.toArray } → IntsAre vs ns → ns.length ≤ n → s₁.gens = #[] →
      codeAny (model l.prog w) callerA (.call (.ref fa) ⟨[.ref a], []⟩) (fun r s' => r = .ok (.ret (.bool true)) ∧ OldK s₁.heap s'.heap ∧ s'.os = s₁.os ∧ AllBare s'.gens) s₁) :
    WalkO q loose XP YP l.row.toRowW d [] (fun f vs => PySem.call f vs) := by
  intro w s₀ s₁ mg mb G Y fa o pm cd doc dV kV ho hd hcd hD hmg hg args vals as hpre hlay hrd hwl hlo
  obtain rfl : dV = .none := Dflts.none hD hdf
  obtain rfl : kV = .none := Dflts.noKw hD
  obtain ⟨a, vs, ns, rfl, rfl, hobj, hints, hlen⟩ := script_of hn hpre hwl
  refine enter_call (codeAny_mono (call w s₀ s₁ mg mb fa o pm cd doc a vs ns G Y ho (fd_plain hd) hcd hmg hobj hints hlen hg) fun r s' hq => ?_)
  obtain ⟨rfl, h2, h3, h4⟩ := hq
  exact ⟨.inl ⟨.bool true, .bool true, [], rfl, fun _ => rfl, .bool true, post_true l _, fun _ => ⟨List.Pairwise.nil, fun _ hm => (nomatch hm)⟩⟩, h2, h3, h4⟩
section
variable {prog : Program} {w : World} {A : Around} {E : Value → Shared → Prop} {s : Shared} {K : Frag}
end
end Att
namespace L2
open PySem PySem.Spec PyProof.Rows
theorem vals_ints : ∀ {vs : List Value} {ns : List Int}, IntsAre vs ns → Vals (ns.map V.int) vs
  | _, _, .nil => .nil
  | _, _, .cons n t h => .cons ⟨t, rfl⟩ (vals_ints h)
end L2
namespace L2
open PySem PySem.Spec PyProof.Rows
end L2
namespace L2
open PySem PySem.Spec PyProof.Rows
def defArgs (s : Stmt) : Arguments := match s with
  | .FunctionDef _ a _ _ _ _ _ _ _ _ => a
  | _ => { posonlyargs := [], args := [], vararg := none, kwonlyargs := [], kw_defaults := [], kwarg := none, defaults := [] }
def defBody (s : Stmt) : List Stmt := match s with
  | .FunctionDef _ _ b _ _ _ _ _ _ _ => b
  | _ => []
def defScope (s : Stmt) : Scope := match s with
  | .FunctionDef _ _ _ _ _ _ sc _ _ _ => sc
  | _ => { kind := .function, names := [], isGenerator := false, isCoroutine := false }
abbrev CX0 : CXT := fun _ _ _ _ _ _ => False
abbrev E0 : XK := fun _ _ _ => False
theorem pass0 {X : Cx} : Passes CX0 X E0 := fun _ _ _ _ _ _ _ h => h.elim
structure Fun (K : PySem.W.Frag) (x qual : Str) (st : Stmt) (f : Addr) (fd : FuncData) : Prop where
  ex : ∃ (oc : Value) (od : Option Addr) (kV doc pm : Value) (an : Option Addr) (cdv ct : Value) (osl : Array (Option Value)),
    fd = PySem.W.fnOf x qual (defArgs st) (defBody st) (defScope st) .none kV doc pm an cdv ct ∧ K.lookup f = some ⟨oc, od, .func fd, osl⟩ ∧ PySem.W.codeIn K cdv qual = true
  kp : PySem.W.keepIn K (.ref f) = true
section
variable {P : Program} {w : World} {K : PySem.W.Frag} {mg : Str → Option Value} {base : Heap}
theorem Fun.ok {x qual : Str} {st : Stmt} {f : Addr} {fd : FuncData} {N ps : List Str} {k : Nat} {sp : Sp} (F : Fun K x qual st f fd) (S : FnScope N ps (defScope st)) (len : ∀ vs H Q E, sp vs H Q E → vs.length = ps.length)
    (hbody : ∀ (cdv : Value) (A : Around) (outer : List Env) (s : Shared) (H : Hp) (vs : List V) (Q : VK) (E : XK), Room k (A.deeper (envOfC qual (defScope st) s.heap.objs.size f cdv)) → sp vs H Q E →
      ∃ t, PSs (cxOf CX0 P w K mg base N qual (defScope st) f cdv A outer s H E).nox (defBody st) t ∧ t { nx := fun _ H' => Q .non H', rt := Q } (start N vs) H) : FnOk P w K mg base CX0 (k + 1) f fd ps sp := by
  obtain ⟨oc, od, kV, doc, pm, an, cdv, ct, osl, rfl, lk, hcd⟩ := F.ex
  refine fn_of lk hcd S len fun A outer s H vs Q E hr hsp => ?_
  obtain ⟨t, h, q⟩ := hbody cdv A outer s H vs Q E hr hsp
  exact ⟨t, h.nox, q⟩
theorem Fun.binds {x qual : Str} {st : Stmt} {f : Addr} {fd : FuncData} {ps : List Str} (F : Fun K x qual st f fd)
    (h : ∀ (kV doc pm : Value) (an : Option Addr) (cdv ct : Value) (us : List Value), us.length = ps.length → bindArgs (PySem.W.fnOf x qual (defArgs st) (defBody st) (defScope st) .none kV doc pm an cdv ct) ⟨us, []⟩ = pure (ps.zip us)) : Binds K fd ps [] := by
  obtain ⟨oc, od, kV, doc, pm, an, cdv, ct, osl, rfl, lk, hcd⟩ := F.ex
  exact .all (h kV doc pm an cdv ct)
theorem fun_mk {x qual : Str} {st : Stmt} {f : Addr} {oc : Value} {od an : Option Addr} {osl : Array (Option Value)} {kV doc pm cdv ct : Value} (l : K.lookup f = some ⟨oc, od, .func (PySem.W.fnOf x qual (defArgs st) (defBody st) (defScope st) .none kV doc pm an cdv ct), osl⟩)
    (c : PySem.W.codeIn K cdv qual = true) (k : PySem.W.keepIn K (.ref f) = true) : Fun K x qual st f (PySem.W.fnOf x qual (defArgs st) (defBody st) (defScope st) .none kV doc pm an cdv ct) := ⟨⟨oc, od, kV, doc, pm, an, cdv, ct, osl, rfl, l, c⟩, k⟩
end
theorem hu_of {A : Around} {k : Nat} (hr : Room k A) : A.units + 1 < cLine := Nat.lt_of_le_of_lt (Nat.add_le_add_left (by decide : 1 ≤ 64) _) hr.units
theorem small1000 {n : Nat} (h : n ≤ 1000) : n < sizeLine := Nat.lt_of_le_of_lt h (by decide)
section
variable {X : Cx}
theorem pv (i : Nat) {x : Str} {pos : Pos} (hN : X.N[i]? = some x := by rfl) (hv : Vis X.env.scope x := by first | exact Or.inl rfl | exact Or.inr (Or.inl rfl) | exact Or.inr (Or.inr rfl)) (hd : (x == ("__debug__" : Str)) = false := by decide)
    (hcd : (x == ("__classdict__" : Str)) = false := by decide) : PE X (.Name x pos) (tVar i) := pe_var hN hv hd hcd
end
theorem iteF {A B : Prop} (h : B) : if false = true then A else B := by
  rw [if_neg Bool.false_ne_true]
  exact h
theorem ite2 {c A B : Prop} [Decidable c] (h1 : c → A) (h2 : ¬ c → B) : if c then A else B := by
  by_cases h : c
  · rw [if_pos h]
    exact h1 h
  · rw [if_neg h]
    exact h2 h
def Same (H H' : Hp) : Prop := ∀ b o, H b = some o → H' b = some o
theorem Same.refl (H : Hp) : Same H H := fun _ _ h => h
theorem Same.trans {H H1 H2 : Hp} (a : Same H H1) (b : Same H1 H2) : Same H H2 := fun c o h => b c o (a c o h)
theorem Same.free {H H' : Hp} (e : Same H H') {l : Addr} (h : H' l = Option.none) : H l = Option.none := by
  cases q : H l with
  | none => rfl
  | some o =>
    rw [e l o q] at h
    cases h
theorem Same.seq {K : PySem.W.Frag} {H H' : Hp} {a : Addr} {xs : List V} (e : Same H H') (h : SqL K H a xs) : SqL K H' a xs := by
  rcases h with (h | ⟨o, h⟩) | h
  · exact .inl (.inl (e _ _ h))
  · exact .inl (.inr ⟨o, e _ _ h⟩)
  · exact .inr h
end L2
set_option Elab.async false
set_option linter.all false
set_option maxRecDepth 100000
set_option maxHeartbeats 4000000
namespace L2
open PySem PySem.Spec PyProof.Rows
section
variable {X : Cx}
def CBig (i j : Int) : Prop := i.natAbs < 2 ^ 1000000 ∧ j.natAbs < 2 ^ 1000000
theorem CBig.ok {i j : Int} (h : CBig i j) : IntMulOk i j :=
  PySem.IntMulOk.of_le (PySem.intBits_le_iff.mpr h.1) (PySem.intBits_le_iff.mpr h.2) (by decide)
theorem op_mulB : OpR X (binaryOp .Mult) (rI CBig fun i j => .int (i * j)) := opI fun _ _ _ _ _ _ _ hc q => mul_int q hc.ok
def CDivB (_i j : Int) : Prop := j ≠ 0 ∧ j.natAbs < 2 ^ 8999
theorem op_fdivB : OpR X (binaryOp .FloorDiv) (rI CDivB fun i j => .int (i.fdiv j)) := opI fun _ j _ _ _ _ _ hc q => by
  refine floordiv_int hc.1 q (.inl (PyProof.noPylong_of_log2 ?_))
  have h0 : j.natAbs ≠ 0 := by have := hc.1; omega
  have := (Nat.log2_lt h0).mpr hc.2
  omega
theorem bt_abs : bootBuiltins "abs" = some (.builtin "abs") := by decide +kernel
theorem bt_len : bootBuiltins "len" = some (.builtin "len") := by decide +kernel
theorem bt_isinstance : bootBuiltins "isinstance" = some (.builtin "isinstance") := by decide +kernel
theorem bt_list : bootBuiltins "list" = some (.type "list") := by decide +kernel
def dictO (a : Addr) : HO := .ext fun h => ∃ o, h.get? a = some o ∧ o.cls = .type "dict"
def tyN (K : PySem.W.Frag) (H : Hp) (x : V) (T : String) : Prop := match x with
  | .non => T = "NoneType"
  | .bl _ => T = "bool"
  | .int _ => T = "int"
  | .str _ => T = "str"
  | .ref p => (T = "list" ∧ ∃ xs, SqL K H p xs) ∨ (T = "tuple" ∧ ∃ xs, SqT K H p xs) ∨ (T = "dict" ∧ H p = some (dictO p))
  | _ => False
theorem tyN_is {pins : List (Addr × Obj)} {σ : St} {H : Hp} {s : Shared} {T : String} {x : V} {v : Value} (I : Inv X pins σ H s) (r : RelV x v) (ty : tyN X.K H x T) : s.TypeIs v T := by
  cases x with
  | non => cases r; cases (show T = "NoneType" from ty); rfl
  | bl b => cases r; cases (show T = "bool" from ty); rfl
  | int i => obtain ⟨t, rfl⟩ := r; cases (show T = "int" from ty); exact typeIs_int s i t
  | str z => obtain ⟨t, rfl⟩ := r; cases (show T = "str" from ty); exact typeIs_str s z t
  | ref p =>
    cases r
    rcases ty with ⟨rfl, xs, hq⟩ | ⟨rfl, xs, hq⟩ | ⟨rfl, hq⟩
    · obtain ⟨its, _, pl, _⟩ := I.list hq
      exact pl.isList.typeIs
    · obtain ⟨its, _, ⟨o, e, c, _⟩, _⟩ := I.tuple hq
      exact ⟨o, e, c⟩
    · obtain ⟨⟨o, e, c⟩, _⟩ := I.hok p _ hq
      exact ⟨o, e, c⟩
  | _ => exact False.elim ty
theorem isi_gen {pins : List (Addr × Obj)} {σ : St} {H : Hp} {s : Shared} {Tx T : String} {b : Bool} {x : V} {v : Value} {Q : VK} (hne : b = false → (Value.type Tx == Value.type T) = false)
    (hty : typeOf (.type T) = pure (.type "type")) (hsub : isSubtype (.type Tx) (.type T) = pure b) (I : Inv X pins σ H s) (r : RelV x v) (ht : tyN X.K H x Tx) (q : Q (.bl b) H) :
    wpAny (model X.prog X.w) X.A (call (.builtin "isinstance") [v, .type T]) (EP X pins σ Q) X.xe s := by
  cases b with
  | true => exact call_isinstance_yes (tyN_is I r ht) hty hsub ⟨.bl true, H, I, rfl, q⟩
  | false =>
    have hq : EP X pins σ Q (.bool false) { s with toks := s.toks + 1 } := ⟨.bl false, H, I.tok _, rfl, q⟩
    cases x with
    | non => cases r; cases (show Tx = "NoneType" from ht); exact call_isinstance (isinstance_false_none (hne rfl) hty hsub) hq
    | bl b => cases r; cases (show Tx = "bool" from ht); exact call_isinstance (isinstance_false_bool (hne rfl) hty hsub) hq
    | int i => obtain ⟨t, rfl⟩ := r; cases (show Tx = "int" from ht); exact call_isinstance (isinstance_false_int (hne rfl) hty hsub) hq
    | str z => obtain ⟨t, rfl⟩ := r; cases (show Tx = "str" from ht); exact call_isinstance (isinstance_false_str (hne rfl) hty hsub) hq
    | ref p =>
      have ty := tyN_is I r ht
      cases r
      rcases ht with ⟨rfl, xs, hs⟩ | ⟨rfl, xs, hs⟩ | ⟨rfl, hs⟩
      · exact call_isinstance (isinstance_false_list (hne rfl) hty hsub) ⟨ty, hq⟩
      · exact call_isinstance (isinstance_false_tuple (hne rfl) hty hsub) ⟨ty, hq⟩
      · exact call_isinstance (isinstance_false_dict (hne rfl) hty hsub) ⟨ty, hq⟩
    | _ => exact False.elim ht
def isiB (Tx T : String) : Bool := (Tx == T) || (Tx == "bool" && T == "int")
theorem meta_list : typeOf (.type "list") = pure (.type "type") := by kernel_rfl
theorem tyN_in {K : PySem.W.Frag} {H : Hp} {x : V} {T : String} (h : tyN K H x T) : T = "NoneType" ∨ T = "bool" ∨ T = "int" ∨ T = "str" ∨ T = "list" ∨ T = "tuple" ∨ T = "dict" := by
  cases x with
  | non => exact .inl h
  | bl b => exact .inr (.inl h)
  | int i => exact .inr (.inr (.inl h))
  | str z => exact .inr (.inr (.inr (.inl h)))
  | ref p =>
    rcases h with ⟨h, _⟩ | ⟨h, _⟩ | ⟨h, _⟩
    · exact .inr (.inr (.inr (.inr (.inl h))))
    · exact .inr (.inr (.inr (.inr (.inr (.inl h)))))
    · exact .inr (.inr (.inr (.inr (.inr (.inr h)))))
  | _ => exact False.elim h
def rIsi (K : PySem.W.Frag) (T : String) : List V → Hp → VK → Prop := fun xs H Q => ∃ x Tx, xs = [x, .ty T] ∧ tyN K H x Tx ∧ Q (.bl (isiB Tx T)) H
theorem isi_T {T : String} (hty : typeOf (.type T) = pure (.type "type")) (h1 : isSubtype (.type "NoneType") (.type T) = pure (isiB "NoneType" T)) (h2 : isSubtype (.type "bool") (.type T) = pure (isiB "bool" T)) (h3 : isSubtype (.type "int") (.type T) = pure (isiB "int" T))
    (h4 : isSubtype (.type "str") (.type T) = pure (isiB "str" T)) (h5 : isSubtype (.type "list") (.type T) = pure (isiB "list" T)) (h6 : isSubtype (.type "tuple") (.type T) = pure (isiB "tuple" T)) (h7 : isSubtype (.type "dict") (.type T) = pure (isiB "dict" T))
    (hn : ∀ Tx ∈ ["NoneType", "bool", "int", "str", "list", "tuple", "dict"], isiB Tx T = false → (Value.type Tx == Value.type T) = false) : CallR X (.builtin "isinstance") (rIsi X.K T) := by
  intro pins s σ H xs us Q I r h
  obtain ⟨x, Tx, rfl, ht, q⟩ := h
  obtain ⟨u, w', rfl, ru, rw'⟩ := vals2 r
  cases rw'
  rcases tyN_in ht with rfl | rfl | rfl | rfl | rfl | rfl | rfl
  · exact isi_gen (hn _ (by simp)) hty h1 I ru ht q
  · exact isi_gen (hn _ (by simp)) hty h2 I ru ht q
  · exact isi_gen (hn _ (by simp)) hty h3 I ru ht q
  · exact isi_gen (hn _ (by simp)) hty h4 I ru ht q
  · exact isi_gen (hn _ (by simp)) hty h5 I ru ht q
  · exact isi_gen (hn _ (by simp)) hty h6 I ru ht q
  · exact isi_gen (hn _ (by simp)) hty h7 I ru ht q
theorem call_isi_list : CallR X (.builtin "isinstance") (rIsi X.K "list") := isi_T meta_list (by rw [isSubtype_type]; kernel_rfl) (by rw [isSubtype_type]; kernel_rfl) (by rw [isSubtype_type]; kernel_rfl) (by rw [isSubtype_type]; kernel_rfl) (by rw [isSubtype_type]; kernel_rfl) (by rw [isSubtype_type]; kernel_rfl) (by rw [isSubtype_type]; kernel_rfl) (by decide +kernel)
end
end L2
set_option Elab.async false
set_option linter.all false
set_option maxRecDepth 100000
set_option maxHeartbeats 4000000
namespace L2
open PySem PySem.Spec PyProof.Rows
theorem cx_K {CX : CXT} {P : Program} {w : World} {K : PySem.W.Frag} {mg : Str → Option Value} {base : Heap} {N : List Str} {qual : Str} {scope : Scope} {f : Addr} {cd : Value} {A : Around} {outer : List Env} {s : Shared} {H : Hp} {E : XK} :
    (cxOf CX P w K mg base N qual scope f cd A outer s H E).K = K := rfl
theorem tyN_non {K : PySem.W.Frag} {H : Hp} {T : String} : tyN K H .non T = (T = "NoneType") := rfl
theorem tyN_bl {K : PySem.W.Frag} {H : Hp} {T : String} {b : Bool} : tyN K H (.bl b) T = (T = "bool") := rfl
theorem tyN_int {K : PySem.W.Frag} {H : Hp} {T : String} {i : Int} : tyN K H (.int i) T = (T = "int") := rfl
theorem tyN_str {K : PySem.W.Frag} {H : Hp} {T : String} {x : Str} : tyN K H (.str x) T = (T = "str") := rfl
theorem isi_ii : isiB "int" "int" = true := by decide +kernel
theorem isi_ib : isiB "int" "bool" = false := by decide +kernel
theorem isi_it : isiB "int" "tuple" = false := by decide +kernel
theorem isi_il : isiB "int" "list" = false := by decide +kernel
theorem isi_bi : isiB "bool" "int" = true := by decide +kernel
theorem isi_bb : isiB "bool" "bool" = true := by decide +kernel
theorem isi_ni : isiB "NoneType" "int" = false := by decide +kernel
theorem isi_si : isiB "str" "int" = false := by decide +kernel
theorem isi_ti : isiB "tuple" "int" = false := by decide +kernel
theorem isi_li : isiB "list" "int" = false := by decide +kernel
theorem isi_di : isiB "dict" "int" = false := by decide +kernel
theorem isi_tt : isiB "tuple" "tuple" = true := by decide +kernel
theorem isi_ll : isiB "list" "list" = true := by decide +kernel
theorem scal_ii {i j : Int} : scal (.int i) (.int j) = true := rfl
theorem scal_bb {i j : Bool} : scal (.bl i) (.bl j) = true := rfl
theorem Same.tup {K : PySem.W.Frag} {H H' : Hp} {a : Addr} {xs : List V} (e : Same H H') (h : SqT K H a xs) : SqT K H' a xs := by
  rcases h with (h | ⟨o, h⟩) | h
  · exact .inl (.inl (e _ _ h))
  · exact .inl (.inr ⟨o, e _ _ h⟩)
  · exact .inr h
theorem same_new {H : Hp} {p : Addr} (h : H p = none) (o : HO) : Same H (upd H p o) := fun b u q => by rw [upd_ne (ne_of_none q h)]; exact q
theorem cbig {i j : Int} {m n : Nat} (h1 : i.natAbs < 2 ^ m) (h2 : j.natAbs < 2 ^ n) (hm : m ≤ 1000000 := by decide) (hn : n ≤ 1000000 := by decide) : CBig i j :=
  ⟨Nat.lt_of_lt_of_le h1 (Nat.pow_le_pow_right (by decide) hm), Nat.lt_of_lt_of_le h2 (Nat.pow_le_pow_right (by decide) hn)⟩
theorem cdivb {i j : Int} {n : Nat} (h0 : j ≠ 0) (h : j.natAbs < 2 ^ n) (hn : n ≤ 8999 := by decide) : CDivB i j := ⟨h0, Nat.lt_of_lt_of_le h (Nat.pow_le_pow_right (by decide) hn)⟩
def getI (σ : St) (i : Nat) : Int := match σ[i]? with
  | some (some (.int x)) => x
  | _ => 0
theorem sz0 : (0 ≤ sizeLine) = True := eq_true (by decide)
theorem sz1 : (1 ≤ sizeLine) = True := eq_true (by decide)
theorem sz2 : (2 ≤ sizeLine) = True := eq_true (by decide)
theorem sz3 : (3 ≤ sizeLine) = True := eq_true (by decide)
theorem sz4 : (4 ≤ sizeLine) = True := eq_true (by decide)
def NS (e : Expr) : Prop := ∀ es env, starEach (e :: es) env = (false, eval e env) :: starEach es env
theorem ns_Constant {a b c} : NS (Expr.Constant a b c) := fun _ _ => rfl
theorem ns_Name {a b} : NS (Expr.Name a b) := fun _ _ => rfl
theorem ns_Call {a b c d} : NS (Expr.Call a b c d) := fun _ _ => rfl
theorem ns_BinOp {a b c d} : NS (Expr.BinOp a b c d) := fun _ _ => rfl
theorem ns_Tuple {a b c} : NS (Expr.Tuple a b c) := fun _ _ => rfl
theorem ns_List {a b} : NS (Expr.List a b) := fun _ _ => rfl
theorem ns_Subscript {a b c} : NS (Expr.Subscript a b c) := fun _ _ => rfl
theorem ns_ListComp {a b c d} : NS (Expr.ListComp a b c d) := fun _ _ => rfl
section
variable {X : Cx}
theorem pa1 {e1 : Expr} {t1 : TE} (h1 : PE X e1 t1) (n1 : NS e1) : PA X [e1] (tCons t1 tNil) := (pa_cons h1 pa_nil (n1 _ _))
theorem pa2 {e1 e2 : Expr} {t1 t2 : TE} (h1 : PE X e1 t1) (n1 : NS e1) (h2 : PE X e2 t2) (n2 : NS e2) : PA X [e1, e2] (tCons t1 (tCons t2 tNil)) := (pa_cons h1 (pa_cons h2 pa_nil (n2 _ _)) (n1 _ _))
theorem pa3 {e1 e2 e3 : Expr} {t1 t2 t3 : TE} (h1 : PE X e1 t1) (n1 : NS e1) (h2 : PE X e2 t2) (n2 : NS e2) (h3 : PE X e3 t3) (n3 : NS e3) : PA X [e1, e2, e3] (tCons t1 (tCons t2 (tCons t3 tNil))) := (pa_cons h1 (pa_cons h2 (pa_cons h3 pa_nil (n3 _ _)) (n2 _ _)) (n1 _ _))
theorem pa5 {e1 e2 e3 e4 e5 : Expr} {t1 t2 t3 t4 t5 : TE} (h1 : PE X e1 t1) (n1 : NS e1) (h2 : PE X e2 t2) (n2 : NS e2) (h3 : PE X e3 t3) (n3 : NS e3) (h4 : PE X e4 t4) (n4 : NS e4) (h5 : PE X e5 t5) (n5 : NS e5) : PA X [e1, e2, e3, e4, e5] (tCons t1 (tCons t2 (tCons t3 (tCons t4 (tCons t5 tNil))))) := (pa_cons h1 (pa_cons h2 (pa_cons h3 (pa_cons h4 (pa_cons h5 pa_nil (n5 _ _)) (n4 _ _)) (n3 _ _)) (n2 _ _)) (n1 _ _))
theorem pa7 {e1 e2 e3 e4 e5 e6 e7 : Expr} {t1 t2 t3 t4 t5 t6 t7 : TE} (h1 : PE X e1 t1) (n1 : NS e1) (h2 : PE X e2 t2) (n2 : NS e2) (h3 : PE X e3 t3) (n3 : NS e3) (h4 : PE X e4 t4) (n4 : NS e4) (h5 : PE X e5 t5) (n5 : NS e5) (h6 : PE X e6 t6) (n6 : NS e6) (h7 : PE X e7 t7) (n7 : NS e7) : PA X [e1, e2, e3, e4, e5, e6, e7] (tCons t1 (tCons t2 (tCons t3 (tCons t4 (tCons t5 (tCons t6 (tCons t7 tNil))))))) := (pa_cons h1 (pa_cons h2 (pa_cons h3 (pa_cons h4 (pa_cons h5 (pa_cons h6 (pa_cons h7 pa_nil (n7 _ _)) (n6 _ _)) (n5 _ _)) (n4 _ _)) (n3 _ _)) (n2 _ _)) (n1 _ _))
theorem pss2 {e1 e2 : Stmt} {t1 t2 : TS} (h1 : PS X e1 t1) (h2 : PS X e2 t2) : PSs X [e1, e2] (tSeq t1 t2) := (pss_cons h1 (pss_one h2))
theorem pss3 {e1 e2 e3 : Stmt} {t1 t2 t3 : TS} (h1 : PS X e1 t1) (h2 : PS X e2 t2) (h3 : PS X e3 t3) : PSs X [e1, e2, e3] (tSeq t1 (tSeq t2 t3)) := (pss_cons h1 (pss_cons h2 (pss_one h3)))
theorem pss4 {e1 e2 e3 e4 : Stmt} {t1 t2 t3 t4 : TS} (h1 : PS X e1 t1) (h2 : PS X e2 t2) (h3 : PS X e3 t3) (h4 : PS X e4 t4) : PSs X [e1, e2, e3, e4] (tSeq t1 (tSeq t2 (tSeq t3 t4))) := (pss_cons h1 (pss_cons h2 (pss_cons h3 (pss_one h4))))
theorem pss5 {e1 e2 e3 e4 e5 : Stmt} {t1 t2 t3 t4 t5 : TS} (h1 : PS X e1 t1) (h2 : PS X e2 t2) (h3 : PS X e3 t3) (h4 : PS X e4 t4) (h5 : PS X e5 t5) : PSs X [e1, e2, e3, e4, e5] (tSeq t1 (tSeq t2 (tSeq t3 (tSeq t4 t5)))) := (pss_cons h1 (pss_cons h2 (pss_cons h3 (pss_cons h4 (pss_one h5)))))
theorem pss8 {e1 e2 e3 e4 e5 e6 e7 e8 : Stmt} {t1 t2 t3 t4 t5 t6 t7 t8 : TS} (h1 : PS X e1 t1) (h2 : PS X e2 t2) (h3 : PS X e3 t3) (h4 : PS X e4 t4) (h5 : PS X e5 t5) (h6 : PS X e6 t6) (h7 : PS X e7 t7) (h8 : PS X e8 t8) : PSs X [e1, e2, e3, e4, e5, e6, e7, e8] (tSeq t1 (tSeq t2 (tSeq t3 (tSeq t4 (tSeq t5 (tSeq t6 (tSeq t7 t8))))))) := (pss_cons h1 (pss_cons h2 (pss_cons h3 (pss_cons h4 (pss_cons h5 (pss_cons h6 (pss_cons h7 (pss_one h8))))))))
theorem pss15 {e1 e2 e3 e4 e5 e6 e7 e8 e9 e10 e11 e12 e13 e14 e15 : Stmt} {t1 t2 t3 t4 t5 t6 t7 t8 t9 t10 t11 t12 t13 t14 t15 : TS} (h1 : PS X e1 t1) (h2 : PS X e2 t2) (h3 : PS X e3 t3) (h4 : PS X e4 t4) (h5 : PS X e5 t5) (h6 : PS X e6 t6) (h7 : PS X e7 t7) (h8 : PS X e8 t8) (h9 : PS X e9 t9) (h10 : PS X e10 t10) (h11 : PS X e11 t11) (h12 : PS X e12 t12) (h13 : PS X e13 t13) (h14 : PS X e14 t14) (h15 : PS X e15 t15) : PSs X [e1, e2, e3, e4, e5, e6, e7, e8, e9, e10, e11, e12, e13, e14, e15] (tSeq t1 (tSeq t2 (tSeq t3 (tSeq t4 (tSeq t5 (tSeq t6 (tSeq t7 (tSeq t8 (tSeq t9 (tSeq t10 (tSeq t11 (tSeq t12 (tSeq t13 (tSeq t14 t15)))))))))))))) := (pss_cons h1 (pss_cons h2 (pss_cons h3 (pss_cons h4 (pss_cons h5 (pss_cons h6 (pss_cons h7 (pss_cons h8 (pss_cons h9 (pss_cons h10 (pss_cons h11 (pss_cons h12 (pss_cons h13 (pss_cons h14 (pss_one h15)))))))))))))))
end
end L2
set_option Elab.async false
set_option linter.all false
set_option maxRecDepth 100000
set_option maxHeartbeats 4000000
namespace L2
open PySem PySem.Spec PyProof.Rows
section
variable {X : Cx} {pins : List (Addr × Obj)} {σ : St} {H : Hp} {s : Shared} {h' : Heap}
end
section
variable {X : Cx}
end
end L2
set_option Elab.async false
set_option linter.all false
set_option maxRecDepth 100000
set_option maxHeartbeats 4000000
namespace L2
open PySem PySem.Spec PyProof.Rows
section
variable {P : Program} {w : World} {H : Hp} {h : Heap} {a : Addr} {o : HO}
theorem ObjOk.there (x : ObjOk P w H h a o) : ∃ u, h.get? a = some u := by
  cases o with
  | lst xs => obtain ⟨_, _, _, _, e⟩ := x; exact ⟨_, e⟩
  | tup xs => obtain ⟨_, _, _, o, e, _⟩ := x; exact ⟨o, e⟩
  | dK kvs => obtain ⟨_, _, _, _, o, _, _, e, _⟩ := x; exact ⟨o, e⟩
  | dT kvs => obtain ⟨_, _, _, _, o, _, _, e, _⟩ := x; exact ⟨o, e⟩
  | set S n => obtain ⟨o, _, _, _, e, _⟩ := x; exact ⟨o, e⟩
  | ins C dx fs => obtain ⟨_, _, _, e, _⟩ := x; exact ⟨_, e⟩
  | own y => exact x
  | xd fs => obtain ⟨_, ⟨o, _, _, e, _⟩, _⟩ := x; exact ⟨o, e⟩
  | rng lo hi => obtain ⟨_, _, _, e⟩ := x; exact ⟨_, e⟩
  | frz ob u => exact ⟨ob, x.1⟩
  | tbl ps => exact ⟨_, x⟩
  | met f y => exact ⟨_, x⟩
  | ext φ => exact x.2.1
end
section
variable {P : Program} {w : World} {K : PySem.W.Frag} {mg : Str → Option Value} {base : Heap} {N : List Str} {qual : Str} {scope : Scope} {f : Addr} {cd : Value} {A : Around} {outer : List Env} {s₀ : Shared} {H₀ : Hp} {E : XK}
end
section
variable {K : PySem.W.Frag} {h : Heap} {C : Addr} {bmB : List Value} {newId : String}
end
section
variable {X : Cx} {C : Addr} {E : XK} {x : Str} {np cpos pos : Pos} {e : Expr} {es : List Expr} {ta : TA}
end
end L2
set_option Elab.async false
set_option linter.all false
set_option maxRecDepth 100000
set_option maxHeartbeats 4000000
namespace L2
open PySem PySem.Spec PyProof.Rows
structure XI (K : PySem.W.Frag) (D : Addr) : Prop where
  ga : PySem.W.findIn K (.ref D) "__getattribute__" = some (some (.builtin "BaseException.__getattribute__"))
  gn : PySem.W.findIn K (.ref D) "__getattr__" = some none
  cl : PySem.W.findIn K (.ref D) "__class__" = some (some (.builtin "object.__class__"))
  get : PySem.W.specialIn K (.builtin "object.__class__") "__get__" = some (some (.builtin "getset_descriptor.__get__"))
  tk : PySem.W.takesIn K (.builtin "object.__class__") = some true
  ob : PySem.W.mroIn K D (.type "object") = some true
  be : PySem.W.mroIn K D (.type "BaseException") = some true
theorem XI.cls {K : PySem.W.Frag} {D : Addr} (F : XI K D) : (PySem.W.clsIn K D).isSome = true := by
  have z := F.ob
  unfold PySem.W.mroIn at z
  cases q : PySem.W.clsIn K D with
  | none => rw [q] at z; cases z
  | some cd => rfl
def XAt (a D : Addr) (h : Heap) : Prop := ∃ o vs, h.get? a = some o ∧ o.cls = .ref D ∧ o.data = .fields vs
section
variable {prog : Program} {w : World} {A : Around} {E : Value → Shared → Prop} {s : Shared} {K : PySem.W.Frag} {a D : Addr}
theorem XAt.ty {M : Model} {h : Heap} (x : XAt a D h) : PySem.W.Looks M h (typeOf (.ref a)) (.ref D) := by
  obtain ⟨o, vs, e, c, _⟩ := x
  exact c ▸ (PySem.W.Looks.ld e).andThen .now
end
section
variable {X : Cx} {c : Value} {cv : V}
end
section
variable {X : Cx} {pins pins1 pn : List (Addr × Obj)} {σ : St} {H : Hp} {s : Shared} {W : Value → Shared → Prop} {ea : Addr}
end
section
variable {X : Cx} {body suite : List Stmt} {b₀ : Stmt} {x nm : Str} {np hpos pos : Pos} {i : Nat} {C : Addr} {tb : XK → TS} {th : TS}
end
end L2
set_option Elab.async false
set_option linter.all false
set_option maxRecDepth 100000
set_option maxHeartbeats 4000000
namespace L2
open PySem PySem.Spec PyProof.Rows
theorem forIn_steps {α β : Type} (g : α → β → β) {f : α → β → Sem (ForInStep β)} : ∀ {l : List α} (c : β), (∀ x ∈ l, ∀ c, f x c = pure (.yield (g x c))) → forIn l c f = pure (l.foldl (fun c x => g x c) c)
  | [], c, _ => rfl
  | x :: l, c, h => by
    have hx := h x List.mem_cons_self c
    rw [List.forIn_cons, hx, pure_bind]
    exact forIn_steps g (g x c) fun y hy => h y (List.mem_cons_of_mem _ hy)
def addCell (env : Env) (x : Str × NameKind) (c : List (Str × Addr)) : List (Str × Addr) :=
  if x.2 == NameKind.free then (match env.cells.lookup x.1 with | some a => (x.1, a) :: c | none => c) else c
theorem addCells_sub {env : Env} : ∀ (l : List (Str × NameKind)) (acc : List (Str × Addr)), (∀ n c, acc.lookup n = some c → env.cells.lookup n = some c) →
    ∀ n c, (l.foldl (fun c x => addCell env x c) acc).lookup n = some c → env.cells.lookup n = some c
  | [], acc, h, n, c, e => h n c e
  | x :: l, acc, h, n, c, e => by
    refine addCells_sub l (addCell env x acc) (fun n c e => ?_) n c e
    unfold addCell at e
    split at e
    · split at e
      · rename_i a ha
        rw [List.lookup_cons] at e
        split at e
        · rename_i hb
          have hn : n = x.1 := by simpa using hb
          cases e
          rw [hn]; exact ha
        · exact h n c e
      · exact h n c e
    · exact h n c e
theorem addCells_has {env : Env} : ∀ (l : List (Str × NameKind)) (acc : List (Str × Addr)) (n : Str), ((∃ c, acc.lookup n = some c) ∨ ((n, NameKind.free) ∈ l ∧ ∃ c, env.cells.lookup n = some c)) →
    ∃ c, (l.foldl (fun c x => addCell env x c) acc).lookup n = some c
  | [], acc, n, h => by
    rcases h with h | ⟨h, _⟩
    · exact h
    · cases h
  | x :: l, acc, n, h => by
    refine addCells_has l (addCell env x acc) n ?_
    rcases h with ⟨c, h⟩ | ⟨h, c, hc⟩
    · left
      unfold addCell
      split
      · split
        · rw [List.lookup_cons]
          split
          · exact ⟨_, rfl⟩
          · exact ⟨c, h⟩
        · exact ⟨c, h⟩
      · exact ⟨c, h⟩
    · rcases List.mem_cons.mp h with e | h
      · left
        subst e
        unfold addCell
        have ef : (NameKind.free == NameKind.free) = true := rfl
        have en : (n == n) = true := by simp
        simp only [ef, if_true, hc, List.lookup_cons, en]
        exact ⟨c, rfl⟩
      · exact .inr ⟨h, c, hc⟩
theorem closure_of {scope : Scope} {env : Env} (hf : ∀ n, (n, NameKind.free) ∈ scope.names → ∃ c, env.cells.lookup n = some c) :
    ∃ cl, closureFor scope env = pure cl ∧ (∀ n c, cl.lookup n = some c → env.cells.lookup n = some c) ∧ ∀ n, (n, NameKind.free) ∈ scope.names → ∃ c, cl.lookup n = some c := by
  refine ⟨scope.names.foldl (fun c x => addCell env x c) [], ?_, addCells_sub _ _ (fun n c e => by simp at e), fun n h => addCells_has _ _ n (.inr ⟨h, hf n h⟩)⟩
  simp only [closureFor]
  rw [forIn_steps (addCell env) [] (fun x hx c => ?_)]
  · rfl
  · obtain ⟨n, kind⟩ := x
    by_cases hk : kind = .free
    · subst hk
      obtain ⟨a, ha⟩ := hf n hx
      have ef : (NameKind.free == NameKind.free) = true := rfl
      simp [cellOf, ha, addCell, ef]
    · have e : (kind == NameKind.free) = false := by simpa using hk
      simp [e, addCell]
theorem relabel_lookup (env : Env) (x : Str) : ∀ names : List (Str × NameKind),
    (names.map fun (n, k) => if (k == NameKind.free && env.scope.kind == .function && env.kindOf n == some .cell) then (n, NameKind.cell) else (n, k)).lookup x =
    (names.lookup x).map fun k => if (k == NameKind.free && env.scope.kind == .function && env.kindOf x == some .cell) then NameKind.cell else k
  | [] => rfl
  | (n, k) :: r => by
    have ih := relabel_lookup env x r
    rw [List.map_cons]
    by_cases e : x = n
    · subst e
      have ex : (x == x) = true := by simp
      by_cases c : (k == NameKind.free && env.scope.kind == .function && env.kindOf x == some .cell) = true
      · dsimp only
        rw [if_pos c, List.lookup_cons, ex, List.lookup_cons, ex]
        exact congrArg some (if_pos c).symm
      · dsimp only
        rw [if_neg c, List.lookup_cons, ex, List.lookup_cons, ex]
        exact congrArg some (if_neg c).symm
    · have e' : (x == n) = false := by simpa using e
      by_cases c : (k == NameKind.free && env.scope.kind == .function && env.kindOf n == some .cell) = true
      · dsimp only
        rw [if_pos c, List.lookup_cons, e', List.lookup_cons, e']
        exact ih
      · dsimp only
        rw [if_neg c, List.lookup_cons, e', List.lookup_cons, e']
        exact ih
structure CompScope (dsc : Scope) (N : List Str) (scope : Scope) (own : List Str) (ix : List Nat) : Prop where
  kind : scope.kind = .function
  nocell : ∀ y ∈ scope.names, y.2 ≠ NameKind.cell
  names : ∀ y ∈ scope.names, y.2 = NameKind.local → scope.names.lookup y.1 = some .local
  free : ∀ y ∈ scope.names, y.2 = NameKind.free → dsc.names.lookup y.1 = some .cell ∨ dsc.names.lookup y.1 = some .free
  ix : ∀ i ∈ ix, i < N.length ∧ scope.names.lookup (N.getD i "") = some .free
def Cx.comp (X : Cx) (scope : Scope) (own : List Str) (ix : List Nat) (cl : List (Str × Addr)) (C : Addr) (fp : List Addr) (s : Shared) (H : Hp) (xe : Value → Shared → Prop) : Cx :=
  { X with N := own ++ ix.map (fun i => X.N.getD i ""), s₀ := s, H₀ := H, env := compEnvC scope cl C X.env, outer := X.stack, ex := fp, fn := fun _ => false, pn := [], xe := xe }
theorem comp_K {X : Cx} {scope : Scope} {own : List Str} {ix : List Nat} {cl : List (Str × Addr)} {C : Addr} {fp : List Addr} {s : Shared} {H : Hp} {xe : Value → Shared → Prop} : (X.comp scope own ix cl C fp s H xe).K = X.K := rfl
def selC (k : Nat) (ix : List Nat) (σ : St) : St := List.replicate k none ++ ix.map (fun i => (σ[i]?).join)
section
variable {X : Cx} {pins : List (Addr × Obj)} {σ : St} {H H4 : Hp} {s s4 : Shared} {dsc scope : Scope} {own : List Str} {ix : List Nat} {cl : List (Str × Addr)} {C : Addr} {fp : List Addr} {xe : Value → Shared → Prop}
theorem comp_fp (I : Inv X pins σ H s) (hf : ∀ b ∈ fp, FpOk X pins H b) {b : Addr} (hb : b ∈ fp) : b ∉ frs X.stack := fun hs => by
  obtain ⟨_, f1, f2, _⟩ := hf b hb
  rcases List.mem_cons.mp (I.stkSub b hs) with e | e
  · exact f1 e
  · exact f2 e
theorem Inv.comp (I : Inv X pins σ H s) (hd : X.env.scope = dsc) (S : CompScope dsc X.N scope own ix) (cs : ∀ n c, cl.lookup n = some c → X.env.cells.lookup n = some c) (ch : ∀ n, (n, NameKind.free) ∈ scope.names → ∃ c, cl.lookup n = some c)
    (hf : ∀ b ∈ fp, FpOk X pins H b) (ho : ∀ b ∈ fp, ∃ o, s.heap.get? b = some o) (I4 : Inv X pins σ H4 s4) (un : Un (frs X.stack) fp H H4 s.heap s4.heap) (hC : s.heap.objs.size ≤ C) (hn : ∃ m, s4.heap.Ns C m) (hC0 : H4 C = none) :
    Inv (X.comp scope own ix cl C fp s H xe) [] (selC own.length ix σ) H4 s4 := by
  have kfree : ∀ x, scope.names.lookup x = some .free → (compEnvC scope cl C X.env).kindOf x = some .cell ∨ (compEnvC scope cl C X.env).kindOf x = some .free := fun x h => by
    have e : (compEnvC scope cl C X.env).kindOf x = _ := relabel_lookup X.env x scope.names
    rw [e, h, Option.map_some]
    split
    · exact .inl rfl
    · exact .inr rfl
  have kback : ∀ x, ((compEnvC scope cl C X.env).kindOf x = some .cell ∨ (compEnvC scope cl C X.env).kindOf x = some .free) → scope.names.lookup x = some .free := fun x h => by
    have e : (compEnvC scope cl C X.env).kindOf x = _ := relabel_lookup X.env x scope.names
    rw [e] at h
    cases q : scope.names.lookup x with
    | none => rw [q] at h; rcases h with h | h <;> cases h
    | some k =>
      have nc := S.nocell _ (PySem.mem_of_lookup q)
      rw [q, Option.map_some] at h
      cases k <;> first | rfl | exact absurd rfl nc | (rcases h with h | h <;> cases h)
  refine ⟨⟨I.ok.mod, S.kind, I.ok.glob, I.ok.blt, hC, fun x y c h1 h2 => I.ok.inj x y c (cs x c h1) (cs y c h2), fun x hx => ch x (PySem.mem_of_lookup (kback x hx)), fun x c h => (nomatch h), I.ok.hd, I.ok.frames, .inl rfl, fun b hb => ⟨fun z => ?_, fun x c e => (hf b hb).2.2.2.2.1 x c (cs x c e)⟩,
    I.bs, Nat.le_trans I.ok.bsz I.sz, fun b o e hb => ?_, fun b hb => comp_fp I hf hb, I.stack, I.stkFree⟩, I4.os.trans I.os.symm, I4.bare, un, ?_, fun x c e => I4.cell x c (cs x c e), hC0, fun x c e => I4.freeC x c (cs x c e), fun p hp => (nomatch hp), I4.hok, ?_⟩
  · obtain ⟨o, e⟩ := ho b hb
    have z' : b = C := z
    exact absurd (Nat.lt_of_lt_of_le (Heap.lt_size e) (by rw [z']; exact hC)) (Nat.lt_irrefl _)
  · rcases (hf b hb).2.2.2.1 with z | z
    · exact I.ok.noex b o e z
    · exact absurd (Nat.lt_of_lt_of_le (Heap.lt_size e) (Nat.le_trans I.ok.bsz z)) (Nat.lt_irrefl _)
  · obtain ⟨m, hm⟩ := hn
    refine ⟨m, hm, fun i x v e1 e2 _ => ?_⟩
    have e1' : (own ++ ix.map (fun i => X.N.getD i ""))[i]? = some x := e1
    unfold selC at e2
    by_cases hi : i < own.length
    · rw [List.getElem?_append_left (by rw [List.length_replicate]; exact hi), List.getElem?_replicate, if_pos hi] at e2
      cases e2
    · rw [List.getElem?_append_right (by rw [List.length_replicate]; omega), List.length_replicate, List.getElem?_map] at e2
      rw [List.getElem?_append_right (by omega), List.getElem?_map] at e1'
      cases q : ix[i - own.length]? with
      | none => rw [q] at e2; cases e2
      | some j =>
        rw [q] at e1' e2
        rw [Option.map_some, Option.some.injEq] at e1' e2
        obtain ⟨hj, hfr⟩ := S.ix j (List.mem_of_getElem? q)
        rw [e1'] at hfr
        have eN : X.N[j]? = some x := by
          rw [List.getElem?_eq_getElem hj, ← e1', List.getD_eq_getElem?_getD, List.getElem?_eq_getElem hj]; rfl
        have es : σ[j]? = some (some v) := by
          cases w : σ[j]? with
          | none => rw [w] at e2; cases e2
          | some o => rw [w] at e2; exact congrArg some e2
        have kd := S.free _ (PySem.mem_of_lookup hfr) rfl
        rw [← hd] at kd
        obtain ⟨m4, hm4, hl⟩ := I4.loc
        obtain ⟨u, r, l⟩ := hl j x v eN es (.inr kd)
        refine ⟨u, r, .inr ⟨kfree x hfr, ?_⟩⟩
        rcases l with ⟨k, _⟩ | ⟨_, c, ec, cell⟩
        · have k' : X.env.scope.names.lookup x = some .local := k
          rcases kd with z | z <;> (rw [k'] at z; cases z)
        · obtain ⟨c', ec'⟩ := ch x (PySem.mem_of_lookup hfr)
          have z := cs x c' ec'
          rw [ec] at z
          cases z
          exact ⟨c, ec', cell⟩
  · show (selC own.length ix σ).length = (own ++ ix.map (fun i => X.N.getD i "")).length
    unfold selC
    rw [List.length_append, List.length_append, List.length_replicate, List.length_map, List.length_map]
theorem Inv.outOf {pins' : List (Addr × Obj)} {σ' : St} {H' : Hp} {s' : Shared} (I : Inv X pins σ H s) (hf : ∀ b ∈ fp, FpOk X pins H b) (J : Inv (X.comp scope own ix cl C fp s H xe) pins' σ' H' s') : Inv X pins σ H' s' :=
  I.call' J.os J.base J.hok J.bare fun b hb => by
    obtain ⟨_, f1, _, f3, f4, f5⟩ := hf b hb
    exact ⟨f3, f1, f4, f5⟩
end
abbrev testsOf (ifs : List Expr) (env : Env) : Sem Bool := forIn ifs true fun c r => if r = true then do let ok ← isTrue c env (eval c env); pure (ForInStep.yield ok) else pure (ForInStep.yield r)
def PIf (X : Cx) (ifs : List Expr) (t : TT) : Prop :=
  ∀ (pins : List (Addr × Obj)) (s : Shared) (σ : St) (H : Hp) (Q : Bool → Hp → Prop), Inv X pins σ H s → t σ H Q → wpAny (model X.prog X.w) X.A (testsOf ifs X.env) (TP X pins σ Q) X.xe s
def tYes : TT := fun _ H Q => Q true H
theorem pif_nil {X : Cx} : PIf X [] tYes := fun _ _ _ H _ I h => wpAny_tests_nil ⟨H, I, h⟩
theorem pif_one {X : Cx} {c : Expr} {t : TT} (h : PT X c t) : PIf X [c] t := fun pins s σ H Q I q => wpAny_tests_one (h pins s σ H Q I q)
section
variable {prog : Program} {w : World} {A : Around} {R : Result → Shared → Prop} {s : Shared}
abbrev nb (prog : Program) (w : World) (A : Around) (env : Env) (R : Result → Shared → Prop) : Value → Shared → Prop := notedBy (model prog w) A env fun e s' => R (.error e) s'
theorem comp_loop {elt target iter : Expr} {ifs : List Expr} {scope : Scope} {pos : Pos} {it acc : Value} {env : Env} (I : Nat → Shared → Prop)
    (turn : ∀ n s, I n s → wpAny (model prog w) A (pyNext it) (fun r s₁ => (r = none ∧ R (.ok .next) s₁) ∨ ∃ v, r = some v ∧
      wpAny (model prog w) A (letOwnedTupleGo target it v) (fun _ s₂ => wpAny (model prog w) A (assign target env v) (fun _ s₃ => wpAny (model prog w) A (testsOf ifs env) (fun ok s₄ =>
        if ok = true then wpAny (model prog w) A (eval elt env) (fun x s₅ => wpAny (model prog w) A (call (.builtin "list.append") [acc, x]) (fun _ s₆ => ∃ m, m < n ∧ I m s₆) (nb prog w A env R) s₅) (nb prog w A env R) s₄
        else ∃ m, m < n ∧ I m s₄) (nb prog w A env R) s₃) (nb prog w A env R) s₂) (nb prog w A env R) s₁) (nb prog w A env R) s)
    (n : Nat) (h : I n s) : codeAny (model prog w) A (.compLoop (.ListComp elt [⟨target, iter, ifs, 0⟩] scope pos) 0 it acc env) R s := by
  refine codeAny_loop rfl I (fun n s hI => ?_) n h
  refine wpAny_noted ?_
  have e := compTurn_list elt target iter ifs scope pos it acc env
  show wpAny (model prog w) A (compTurn (.ListComp elt [⟨target, iter, ifs, 0⟩] scope pos) 0 it acc env) _ _ s
  rw [e]
  refine wpAny_bind (wpAny_standAt (wpAny_bind (thn (turn n s hI) fun r s₁ h₁ => ?_)))
  rcases h₁ with ⟨rfl, h₁⟩ | ⟨v, rfl, h₁⟩
  · exact wpAny_pure h₁
  · refine wpAny_bind (thn h₁ fun _ s₂ h₂ => wpAny_bind (thn h₂ fun _ s₃ h₃ => wpAny_bind (thn h₃ fun ok s₄ h₄ => ?_)))
    cases ok with
    | false => exact wpAny_pure ⟨rfl, h₄⟩
    | true =>
      refine wpAny_bind (wpAny_bind (thn h₄ fun x s₅ h₅ => wpAny_bind (thn h₅ fun _ s₆ h₆ => ?_)))
      exact wpAny_pure (wpAny_pure ⟨rfl, h₆⟩)
end
def tComp (k : Nat) (ix : List Nat) (wi : TI) (g : TG) (ti : TT) (te : TE) : TE := fun σ H Q => wi σ H fun J H1 => ∀ D, H1 D = none → ∃ W : Nat → Nat → Hp → Prop, (∃ m, W 0 m (upd H1 D (.lst []))) ∧ ∀ i m H2, W i m H2 →
  (J.stop i H2 ∧ Q (.ref D) H2) ∨ (J.go i H2 ∧ ∀ x H3, J.yld i H2 x H3 → g x (selC k ix σ) H3 fun σ4 H4 => ti σ4 H4 fun b H5 => if b = true then te σ4 H5 fun y H6 => ∃ ys, H6 D = some (.lst ys) ∧ ys.length < sizeLine ∧ ∃ m', m' < m ∧ W (i + 1) m' (upd H6 D (.lst (ys ++ [y])))
    else ∃ m', m' < m ∧ W (i + 1) m' H5)
section
variable {X : Cx} {pins : List (Addr × Obj)} {σ : St} {H : Hp} {s : Shared} {dsc scope : Scope} {own : List Str} {ix : List Nat} {elt tg iter : Expr} {ifs : List Expr} {pos : Pos} {wi : TI} {g : TG} {ti : TT} {te : TE}
def CompBody (X : Cx) (scope : Scope) (own : List Str) (ix : List Nat) (tg : Expr) (ifs : List Expr) (elt : Expr) (g : TG) (ti : TT) (te : TE) : Prop :=
  ∀ cl C fp s H xe, PG (X.comp scope own ix cl C fp s H xe) tg g ∧ PIf (X.comp scope own ix cl C fp s H xe) ifs ti ∧ PE (X.comp scope own ix cl C fp s H xe) elt te
theorem comp_run {use : Option (Value → Sem Unit)} {RQ : Value → Shared → Prop} {Q : VK} {p0 : Pos} (hc : X.calm = true) (hd : X.env.scope = dsc) (S : CompScope dsc X.N scope own ix) (hi : PI X tg iter wi) (hb : CompBody X scope own ix tg ifs elt g ti te)
    (hs : ∀ x, foldedSetIterable iter X.env x = pure x) (I : Inv X pins σ H s) (h : tComp own.length ix wi g ti te σ H Q)
    (fin : ∀ D C H' s', Inv X pins σ H' s' → FpOk X pins H' C → (∃ m, s'.heap.Ns C m) → Q (.ref D) H' → compPost (model X.prog X.w) X.A X.xe use RQ (.ref D) C (.ok .next) s') :
    wpAny (model X.prog X.w) X.A (comprehension (.ListComp elt [⟨tg, iter, ifs, 0⟩] scope pos) scope X.env p0 (newList []) false (eval iter X.env) use) RQ X.xe s := by
  obtain ⟨cl, hcl, cs, ch⟩ := closure_of (scope := scope) (env := X.env) fun n hn => I.ok.has n (by
    have z := S.free _ hn rfl
    rw [← hd] at z
    exact z)
  refine wpAny_comprehension_free rfl hs hcl S.kind S.names (thn (hi pins s σ H _ I h) fun v s1 h1 => thn h1 fun itv s2 h2 => ?_)
  obtain ⟨it, fp, tn, J, H2, e, I2, T, st2, f2, W⟩ := h2
  subst e
  have hD0 : H2 s2.heap.objs.size = none := I2.fresh
  obtain ⟨W, ⟨m0, w0⟩, turn⟩ := W _ hD0
  have I3 := I2.lnew (ys := []) (its := []) (t' := s2.toks) .nil (Nat.zero_le _)
  refine wpAny_newObj_type (wpAny_newFunctionEnv S.nocell (by intro y hy; cases hy) (fun h₁ hns₁ hsb₁ => ?_) S.kind)
  dsimp only at hns₁ hsb₁ ⊢
  generalize hH3 : s2.heap.push { cls := .type "list", dict := none, data := .seq ([] : List Value).toArray } = g3 at hns₁ hsb₁ ⊢
  have hC : g3.objs.size = s2.heap.objs.size + 1 := by rw [← hH3, Heap.size_push]
  have old3 : ∀ b o, g3.get? b = some o → h₁.get? b = some o := fun b o e => hsb₁.extBut b o (Nat.ne_of_lt (Heap.lt_size e)) (Heap.get?_push_of_some _ e)
  have old : ∀ b o, s2.heap.get? b = some o → h₁.get? b = some o := fun b o e => old3 b o (by rw [← hH3]; exact Heap.get?_push_of_some _ e)
  have I4 : Inv X pins σ (upd H2 s2.heap.objs.size (.lst [])) { s2 with heap := h₁, toks := s2.toks + 0 } := I3.kept (t' := s2.toks + 0) fun b o e => old3 b o (by rw [← hH3]; exact e)
  have fpo : ∀ b ∈ fp, ∃ o, s2.heap.get? b = some o := fun b hb => let ⟨o, e, _⟩ := T.obj _ _ st2 b hb; ⟨o, e⟩
  have hC0 : upd H2 s2.heap.objs.size (.lst []) g3.objs.size = none := by
    rw [upd_ne (by rw [hC]; exact Nat.succ_ne_self _)]
    exact I2.hok.fresh (by rw [hC]; exact Nat.le_succ _)
  have hCs : s2.heap.objs.size ≤ g3.objs.size := by rw [hC]; exact Nat.le_succ _
  -- the block's context, and how one comes into it again
  have into : ∀ {H' : Hp} {s' : Shared} {xe : Value → Shared → Prop}, Inv X pins σ H' s' → Un (frs X.stack) fp H2 H' s2.heap s'.heap → (∃ m, s'.heap.Ns g3.objs.size m) → H' g3.objs.size = none → Inv (X.comp scope own ix cl g3.objs.size fp s2 H2 xe) [] (selC own.length ix σ) H' s' :=
    fun I' un hn h0 => I2.comp hd S cs ch f2 fpo I' un hCs hn h0
  have stat : ∀ {H' : Hp} {xe : Value → Shared → Prop} {σ' : St} {s' : Shared}, Inv (X.comp scope own ix cl g3.objs.size fp s2 H2 xe) [] σ' H' s' → (∀ b ∈ fp, H' b = none) → ∀ b ∈ fp, FpOk (X.comp scope own ix cl g3.objs.size fp s2 H2 xe) [] H' b := fun {H' xe σ' s'} K hn b hb =>
    ⟨hn b hb, (K.ok.exf b hb).1, K.ok.exfs b hb, .inl hb, (K.ok.exf b hb).2, fun p hp => nomatch hp⟩
  have loop : ∀ s₃ : Shared, s₃ = { s2 with heap := h₁, toks := s2.toks + 0 } →
      codeAny (model X.prog X.w) X.A (.compLoop (.ListComp elt [⟨tg, iter, ifs, 0⟩] scope pos) 0 (.ref it) (.ref s2.heap.objs.size) (compEnvC scope cl g3.objs.size X.env)) (compPost (model X.prog X.w) X.A X.xe use RQ (.ref s2.heap.objs.size) g3.objs.size) s₃ := by
    rintro s₃ rfl
    generalize hxe : nb X.prog X.w X.A (compEnvC scope cl g3.objs.size X.env) (compPost (model X.prog X.w) X.A X.xe use RQ (.ref s2.heap.objs.size) g3.objs.size) = xe
    obtain ⟨hg, hif, hel⟩ := hb cl g3.objs.size fp s2 H2 xe
    refine comp_loop (fun n s' => ∃ i H', Inv (X.comp scope own ix cl g3.objs.size fp s2 H2 xe) [] (selC own.length ix σ) H' s' ∧ tn i s'.heap ∧ (∀ b ∈ fp, H' b = none) ∧ W i n H') ?_ m0
      ⟨0, _, into I4 (Un.laid old (Nat.le_refl _) hD0) ⟨_, hns₁⟩ hC0, T.keep _ _ _ st2 fun b hb o e => old b o e, fun b hb => ?_, w0⟩
    · rintro n s3 ⟨i, H3, K3, st3, fr3, w3⟩
      rw [hxe]
      rcases turn i n H3 w3 with ⟨stop, qn⟩ | ⟨go, step⟩
      · refine thn (T.done (X.comp scope own ix cl g3.objs.size fp s2 H2 xe) rfl rfl rfl hc i [] s3 _ H3 xe K3 (stat K3 fr3) st3 stop) fun r s4 ⟨hr, K4⟩ => .inl ⟨hr, ?_⟩
        obtain ⟨m, hm, _⟩ := K4.loc
        exact fin _ _ H3 s4 (I2.outOf f2 K4) (I2.fpOk hCs K4.free) ⟨m, hm⟩ qn
      · refine thn (T.item (X.comp scope own ix cl g3.objs.size fp s2 H2 xe) rfl rfl rfl hc i [] s3 _ H3 xe K3 (stat K3 fr3) st3 go) fun r s4 ⟨u, hr, h4⟩ => .inr ⟨u, hr, ?_⟩
        refine thn h4 fun _ s5 ⟨x, H5, K5, r5, y5, st5, fr5⟩ => ?_
        have K5' := K5.pinned (stat K5 fr5) (T.obj _ _ st5)
        refine thn (hg _ s5 _ H5 x u _ K5' r5 (step x H5 y5)) fun _ s6 ⟨σ6, H6, K6, q6⟩ => ?_
        refine thn (hif _ s6 σ6 H6 _ K6 q6) fun b s7 ⟨H7, K7, q7⟩ => ?_
        have again : ∀ {σ8 : St} {H8 : Hp} {s8 : Shared}, Inv (X.comp scope own ix cl g3.objs.size fp s2 H2 xe) ([] ++ pinsAt fp s5.heap) σ8 H8 s8 → (∃ m', m' < n ∧ W (i + 1) m' H8) → ∃ m, m < n ∧ ∃ i H', Inv (X.comp scope own ix cl g3.objs.size fp s2 H2 xe) [] (selC own.length ix σ) H' s8 ∧ tn i s8.heap ∧ (∀ b ∈ fp, H' b = none) ∧ W i m H' := fun {σ8 H8 s8} K8 ⟨m', hm, w8⟩ => by
          obtain ⟨m, hm8, _⟩ := K8.loc
          refine ⟨m', hm, i + 1, H8, into (I2.outOf f2 K8) K8.base ⟨m, hm8⟩ K8.free, T.keep _ _ _ st5 fun b hb o e => (K8.pin (b, o) (List.mem_append_right _ (List.mem_append_right _ (mem_pinsAt hb e)))).1, fun b hb => ?_, w8⟩
          obtain ⟨o, e, d⟩ := T.obj _ _ st5 b hb
          exact (K8.pin (b, o) (List.mem_append_right _ (List.mem_append_right _ (mem_pinsAt hb e)))).2.1
        cases b with
        | false => exact again K7 q7
        | true =>
          refine thn (hel _ s7 σ6 H7 _ K7 q7) fun v s8 ⟨y, H8, K8, r8, ys, e8, z8, q8⟩ => ?_
          refine thn (mt_append (X := X.comp scope own ix cl g3.objs.size fp s2 H2 xe) _ s8 σ6 H8 (.ref s2.heap.objs.size) [y] (.ref s2.heap.objs.size) [v] (fun _ H' => ∃ m', m' < n ∧ W (i + 1) m' H') K8 rfl (.cons r8 .nil) ⟨_, ys, y, rfl, rfl, e8, z8, q8⟩) ?_
          rintro u9 s9 ⟨v9, H9, K9, r9, q9⟩
          exact again K9 q9
    · have z := (f2 b hb).1
      obtain ⟨o, e⟩ := fpo b hb
      rw [upd_ne (Nat.ne_of_lt (Heap.lt_size e))]
      exact z
  exact codeAny_compStart_list (loop _ rfl) (T.self _ 0 _ _ _ (T.keep _ _ _ st2 fun b hb o e => old b o e) (loop _ rfl))
theorem pe_comp {N : List Str} (hc : X.calm = true) (hd : X.env.scope = dsc) (hN : X.N = N) (S' : CompScope dsc N scope own ix) (hi : PI X tg iter wi) (hb : CompBody X scope own ix tg ifs elt g ti te)
    (hs : ∀ x, foldedSetIterable iter X.env x = pure x := by intro _; rfl) : PE X (.ListComp elt [⟨tg, iter, ifs, 0⟩] scope pos) (tComp own.length ix wi g ti te) := by
  have S : CompScope dsc X.N scope own ix := by rw [hN]; exact S'
  intro pins s σ H Q I h
  rw [eval_ListComp]
  refine comp_run (use := none) hc hd S hi hb hs I h fun D C H' s' I' f' hn q => ?_
  obtain ⟨m, hm⟩ := hn
  obtain ⟨f0, f1, f2, f3, f4, f5⟩ := f'
  exact ⟨m, hm, fun h' sb => ⟨.ref D, H', I'.turned (t' := s'.toks) (fun b o hb e => (sb.2 b hb).trans e) f0 f1 f3 f4 f5, rfl, q⟩⟩
theorem ps_setC {i : Nat} {x : Str} {N : List Str} {pos' pos1 : Pos} (hN : X.N.Nodup) (hx0 : X.N[i]? = some x) (hx : Loc X.env.scope x) (hc : X.calm = true) (hd : X.env.scope = dsc) (hN' : X.N = N) (S' : CompScope dsc N scope own ix) (hi : PI X tg iter wi) (hb : CompBody X scope own ix tg ifs elt g ti te)
    (hsw : swapsWith (.ListComp elt [⟨tg, iter, ifs, 0⟩] scope pos) (some (.Name x pos')) pos1.line X.env = pure true := by rfl) (hf : X.fn x = true ∨ X.env.scope.names.lookup x = some .local := by first | exact .inl rfl | exact .inr rfl | assumption)
    (hs : ∀ x, foldedSetIterable iter X.env x = pure x := by intro _; rfl) : PS X (.Assign [.Name x pos'] (.ListComp elt [⟨tg, iter, ifs, 0⟩] scope pos) pos1) (tAsg (tComp own.length ix wi g ti te) (gName i)) := by
  have S : CompScope dsc X.N scope own ix := by rw [hN']; exact S'
  intro pins s σ H D I h
  rw [exec_Assign_Name_used _ _ _ _ hsw]
  have main := comp_run (p0 := iter.pos) (pos := pos) (use := some (assign (.Name x pos') X.env)) (RQ := fun _ s' => SP X pins D .next s') hc hd S hi hb hs I h fun l C H' s' I' f' hn q => by
    obtain ⟨m, o, es, ep, ho, hdt, hr⟩ := hn
    obtain ⟨f0, f1, f2, f3, f4, f5⟩ := f'
    have Ip : Inv X (pins ++ [(C, o)]) σ H' s' := I'.pins_of fun p hp => (List.mem_append.mp hp).elim (fun z => I'.pin p (List.mem_append_right _ z)) fun z => by
      have e : p = (C, o) := by simpa using z
      subst e
      exact ⟨ho, f0, f1, f2, fun v z => by rw [hdt] at z; cases z⟩
    refine wpAny_assign_Name (store_ok (v := .ref l) Ip hN hx0 hx rfl (fun s2 I2 => ?_) hf)
    have pc := I2.pin (C, o) (List.mem_append_right _ (List.mem_append_right _ (by simp)))
    refine ⟨m, ⟨o, es, ep, pc.1, hdt, hr⟩, fun h' sb => ⟨_, H', I2.unpinned.turned (t' := s2.toks) (fun b o hb e => (sb.2 b hb).trans e) pc.2.1 f1 f3 f4 f5, q⟩⟩
  refine wpAny_bind (wpAny_standAt (wpAny_bind ?_))
  exact wpAny_bind (thn main fun _ s' hq => wpAny_pure (wpAny_pure hq))
end
def CW (n : Nat) (Pv : Nat → List V → Hp → Prop) : Nat → Nat → Hp → Prop := fun i m H => m = n - i ∧ i ≤ n ∧ ∃ ys, Pv i ys H
abbrev CPut (n : Nat) (Pv : Nat → List V → Hp → Prop) (D : Addr) (i : Nat) (y : V) (H : Hp) : Prop := ∃ ys, H D = some (.lst ys) ∧ ys.length < sizeLine ∧ ∃ m', m' < n - i ∧ CW n Pv (i + 1) m' (upd H D (.lst (ys ++ [y])))
abbrev CSkip (n : Nat) (Pv : Nat → List V → Hp → Prop) (i : Nat) (H : Hp) : Prop := ∃ m', m' < n - i ∧ CW n Pv (i + 1) m' H
theorem cw_put {n i : Nat} {Pv : Nat → List V → Hp → Prop} {D : Addr} {y : V} {ys : List V} {H : Hp} (hi : i < n) (hD : H D = some (.lst ys)) (hz : ys.length < sizeLine) (p : Pv (i + 1) (ys ++ [y]) (upd H D (.lst (ys ++ [y])))) : CPut n Pv D i y H :=
  ⟨ys, hD, hz, n - (i + 1), by omega, rfl, hi, _, p⟩
theorem cw_skip {n i : Nat} {Pv : Nat → List V → Hp → Prop} {ys : List V} {H : Hp} (hi : i < n) (p : Pv (i + 1) ys H) : CSkip n Pv i H := ⟨n - (i + 1), by omega, rfl, hi, _, p⟩
def CompW (J : It) (D : Addr) (g : TG) (ti : TT) (te : TE) (σ' : St) (H : Hp) (Q : VK) : Prop :=
  ∃ W : Nat → Nat → Hp → Prop, (∃ m, W 0 m (upd H D (.lst []))) ∧ ∀ i m H2, W i m H2 →
    (J.stop i H2 ∧ Q (.ref D) H2) ∨ (J.go i H2 ∧ ∀ x H3, J.yld i H2 x H3 → g x σ' H3 fun σ4 H4 => ti σ4 H4 fun b H5 => if b = true then te σ4 H5 fun y H6 => ∃ ys, H6 D = some (.lst ys) ∧ ys.length < sizeLine ∧ ∃ m', m' < m ∧ W (i + 1) m' (upd H6 D (.lst (ys ++ [y])))
      else ∃ m', m' < m ∧ W (i + 1) m' H5)
theorem tComp_mk {k : Nat} {ix : List Nat} {wi : TI} {g : TG} {ti : TT} {te : TE} {σ : St} {H : Hp} {Q : VK} (h : wi σ H fun J H1 => ∀ D, H1 D = none → CompW J D g ti te (selC k ix σ) H1 Q) : tComp k ix wi g ti te σ H Q := h
theorem comp_by {J : It} {D : Addr} {g : TG} {ti : TT} {te : TE} {σ' : St} {H : Hp} {Q : VK} (n : Nat) (Pv : Nat → List V → Hp → Prop) (h0 : Pv 0 [] (upd H D (.lst []))) (hgo : ∀ i ys H, i < n → Pv i ys H → J.go i H) (hst : ∀ ys H, Pv n ys H → J.stop n H)
    (hs : ∀ i ys H x H3, i < n → Pv i ys H → J.yld i H x H3 → g x σ' H3 fun σ4 H4 => ti σ4 H4 fun b H5 => if b = true then te σ4 H5 fun y H6 => CPut n Pv D i y H6 else CSkip n Pv i H5)
    (hd : ∀ ys H, Pv n ys H → Q (.ref D) H) : CompW J D g ti te σ' H Q := by
  refine ⟨CW n Pv, ⟨n, rfl, Nat.zero_le _, [], h0⟩, ?_⟩
  rintro i m H2 ⟨rfl, hi, ys, p⟩
  by_cases hlt : i < n
  · exact .inr ⟨hgo i ys H2 hlt p, fun x H3 y => hs i ys H2 x H3 hlt p y⟩
  · have e : i = n := by omega
    subst e
    exact .inl ⟨hst ys H2 p, hd ys H2 p⟩
theorem comp_list {K : PySem.W.Frag} {a D : Addr} {xs : List V} {g : TG} {ti : TT} {te : TE} {σ' : St} {H : Hp} {Q : VK} (Pv : Nat → List V → Hp → Prop) (h0 : Pv 0 [] (upd H D (.lst []))) (hl : ∀ i ys H, Pv i ys H → SqL K H a xs)
    (hs : ∀ i ys H x, i < xs.length → xs[i]? = some x → Pv i ys H → g x σ' H fun σ4 H4 => ti σ4 H4 fun b H5 => if b = true then te σ4 H5 fun y H6 => CPut xs.length Pv D i y H6 else CSkip xs.length Pv i H5)
    (hd : ∀ ys H, Pv xs.length ys H → Q (.ref D) H) : CompW (Itl K a) D g ti te σ' H Q := by
  refine comp_by xs.length Pv h0 (fun i ys H hi p => ⟨xs, xs[i], hl i ys H p, by simp [hi]⟩) (fun ys H p => ⟨xs, hl _ ys H p, Nat.le_refl _⟩) (fun i ys H x H3 hi p y => ?_) hd
  obtain ⟨e, y⟩ := y
  subst e
  exact hs i ys _ x hi (y xs (hl i ys _ p)) p
end L2
set_option Elab.async false
set_option linter.all false
set_option maxRecDepth 100000
set_option maxHeartbeats 4000000
namespace L2
open PySem PySem.Spec PyProof.Rows
mutual
def RdD (K : PySem.W.Frag) (H : Hp) : PyData → V → Prop
  | .none, v => v = .non
  | .bool b, v => v = .bl b
  | .int i, v => v = .int i
  | .str x, v => v = .str x
  | .list ds, v => ∃ p xs, v = .ref p ∧ SqL K H p xs ∧ RdDs K H ds xs
  | .tuple ds, v => ∃ p xs, v = .ref p ∧ SqT K H p xs ∧ RdDs K H ds xs
  | .dict _, _ => False
def RdDs (K : PySem.W.Frag) (H : Hp) : List PyData → List V → Prop
  | [], xs => xs = []
  | d :: ds, xs => ∃ x r, xs = x :: r ∧ RdD K H d x ∧ RdDs K H ds r
end
section
variable {X : Cx} {pins : List (Addr × Obj)} {σ : St} {H : Hp} {s : Shared}
mutual
theorem reads_of (I : Inv X pins σ H s) : ∀ (d : PyData) (v : V) (u : Value), RdD X.K H d v → RelV v u → ∃ as, Reads s.heap u d as
  | .none, v, u, h, r => by
    rw [RdD] at h; subst h; cases r; exact ⟨_, .none⟩
  | .bool b, v, u, h, r => by
    rw [RdD] at h; subst h; cases r; exact ⟨_, .bool b⟩
  | .int i, v, u, h, r => by
    rw [RdD] at h; subst h; obtain ⟨t, rfl⟩ := r; exact ⟨_, .int i t⟩
  | .str x, v, u, h, r => by
    rw [RdD] at h; subst h; obtain ⟨t, rfl⟩ := r; exact ⟨_, .str x t⟩
  | .list ds, v, u, h, r => by
    rw [RdD] at h
    obtain ⟨p, xs, rfl, hq, hs⟩ := h
    cases r
    obtain ⟨its, rv, pl, hz⟩ := I.list hq
    obtain ⟨o, ho, hc, n, hd⟩ := pl.isList
    obtain ⟨as, ra⟩ := reads_ofs I ds xs its hs rv
    exact ⟨_, reads_list_at ho hc hd (by simpa using ra)⟩
  | .tuple ds, v, u, h, r => by
    rw [RdD] at h
    obtain ⟨p, xs, rfl, hq, hs⟩ := h
    cases r
    obtain ⟨its, rv, pl, hz⟩ := I.tuple hq
    obtain ⟨o, ho, hc, n, hd⟩ := pl
    obtain ⟨as, ra⟩ := reads_ofs I ds xs its hs rv
    exact ⟨_, reads_tuple_at ho hc hd (by simpa using ra)⟩
  | .dict kvs, v, u, h, r => by
    rw [RdD] at h; exact h.elim
theorem reads_ofs (I : Inv X pins σ H s) : ∀ (ds : List PyData) (xs : List V) (us : List Value), RdDs X.K H ds xs → Vals xs us → ∃ as, ReadsAll s.heap us ds as
  | [], xs, us, h, r => by
    rw [RdDs] at h; subst h; cases r; exact ⟨_, .nil⟩
  | d :: ds, xs, us, h, r => by
    rw [RdDs] at h
    obtain ⟨x, xr, rfl, hx, hr⟩ := h
    cases r with
    | cons r1 r2 =>
      obtain ⟨as, ra⟩ := reads_of I d _ _ hx r1
      obtain ⟨bs, rb⟩ := reads_ofs I ds _ _ hr r2
      exact ⟨_, .cons ra rb⟩
end
end
def rEqD (K : PySem.W.Frag) : R2 := fun x y H Q => ∃ d e, RdD K H d x ∧ RdD K H e y ∧ SeqAt.shaped d = true ∧ SeqAt.shaped e = true ∧ Q (.bl (PyData.eqv d e)) H
def rNeD (K : PySem.W.Frag) : R2 := fun x y H Q => ∃ d e, RdD K H d x ∧ RdD K H e y ∧ SeqAt.shaped d = true ∧ SeqAt.shaped e = true ∧ Q (.bl (!PyData.eqv d e)) H
theorem hu64 {A : Around} {k : Nat} (hr : Room k A) : A.units + 64 < cLine := by have := hr.un; omega
section
variable {X : Cx}
theorem op_eqD (hu : X.A.units + 64 < cLine) : OpR X (compareOp .Eq) (rEqD X.K) := by
  intro pins s σ H x y v u Q I rx ry h
  obtain ⟨d, e, hd, he, sd, se, q⟩ := h
  obtain ⟨as, ra⟩ := reads_of I d x v hd rx
  obtain ⟨bs, rb⟩ := reads_of I e y u he ry
  exact eq_dataH ra rb sd se hu ⟨.bl (PyData.eqv d e), H, I, rfl, q⟩
theorem op_neD (hu : X.A.units + 64 < cLine) : OpR X (compareOp .NotEq) (rNeD X.K) := by
  intro pins s σ H x y v u Q I rx ry h
  obtain ⟨d, e, hd, he, sd, se, q⟩ := h
  obtain ⟨as, ra⟩ := reads_of I d x v hd rx
  obtain ⟨bs, rb⟩ := reads_of I e y u he ry
  exact ne_dataH ra rb sd se hu ⟨.bl (!PyData.eqv d e), H, I, rfl, q⟩
end
end L2
set_option Elab.async false
set_option linter.all false
set_option maxRecDepth 100000
set_option maxHeartbeats 4000000
namespace L2
open PySem PySem.Spec PyProof.Rows
section
variable {X : Cx}
theorem IxR.imp {r r' : R2} (h : IxR X r) (i : ∀ x y H Q, r' x y H Q → r x y H Q) : IxR X r' := fun value slice pins s σ H x y v u Q I rx ry q hs => h value slice pins s σ H x y v u Q I rx ry (i x y H Q q) hs
theorem CallR.imp {f : Value} {r r' : List V → Hp → VK → Prop} (h : CallR X f r) (i : ∀ xs H Q, r' xs H Q → r xs H Q) : CallR X f r' := fun pins s σ H xs us Q I rv q => h pins s σ H xs us Q I rv (i xs H Q q)
theorem OpR.imp {f : Value → Value → Sem Value} {r r' : R2} (h : OpR X f r) (i : ∀ x y H Q, r' x y H Q → r x y H Q) : OpR X f r' := fun pins s σ H x y v u Q I rx ry q => h pins s σ H x y v u Q I rx ry (i x y H Q q)
def rIxTH : R2 := fun x y H Q => ∃ p xs i v, x = .ref p ∧ y = .int i ∧ H p = some (.tup xs) ∧ atI xs i = some v ∧ Q v H
def rIxLH : R2 := fun x y H Q => ∃ p xs i v, x = .ref p ∧ y = .int i ∧ H p = some (.lst xs) ∧ atI xs i = some v ∧ Q v H
theorem ix_tupH : IxR X rIxTH := ix_tup.imp fun x y H Q ⟨p, xs, i, v, e1, e2, h, e3, q⟩ => ⟨p, xs, i, v, e1, e2, .of h, e3, q⟩
theorem ix_listH : IxR X rIxLH := ix_list.imp fun x y H Q ⟨p, xs, i, v, e1, e2, h, e3, q⟩ => ⟨p, xs, i, v, e1, e2, .of h, e3, q⟩
def rLenH : List V → Hp → VK → Prop := fun xs H Q => ∃ p ys, xs = [.ref p] ∧ (H p = some (.lst ys) ∨ H p = some (.tup ys)) ∧ Q (.int ys.length) H
theorem call_lenH : CallR X (.builtin "len") rLenH := call_len_seq.imp fun xs H Q ⟨p, ys, e, h, q⟩ => ⟨p, ys, e, h.imp .of .of, q⟩
def tyF (H : Hp) (x : V) : Option String := match x with
  | .non => some "NoneType"
  | .bl _ => some "bool"
  | .int _ => some "int"
  | .str _ => some "str"
  | .ref p => match H p with
    | some (.lst _) => some "list"
    | some (.tup _) => some "tuple"
    | _ => none
  | _ => none
theorem tyF_tyN {K : PySem.W.Frag} {H : Hp} {x : V} {T : String} (h : tyF H x = some T) : tyN K H x T := by
  cases x with
  | non => exact (Option.some.inj h).symm
  | bl b => exact (Option.some.inj h).symm
  | int i => exact (Option.some.inj h).symm
  | str z => exact (Option.some.inj h).symm
  | ref p =>
    unfold tyF at h
    dsimp only at h
    cases q : H p with
    | none => rw [q] at h; cases h
    | some o =>
      rw [q] at h
      cases o with
      | lst xs => exact .inl ⟨(Option.some.inj h).symm, xs, .of q⟩
      | tup xs => exact .inr (.inl ⟨(Option.some.inj h).symm, xs, .of q⟩)
      | _ => cases h
  | _ => cases h
def rIsiF (T : String) : List V → Hp → VK → Prop := fun xs H Q => ∃ x Tx, xs = [x, .ty T] ∧ tyF H x = some Tx ∧ Q (.bl (isiB Tx T)) H
theorem isiF {T : String} (h : CallR X (.builtin "isinstance") (rIsi X.K T)) : CallR X (.builtin "isinstance") (rIsiF T) := h.imp fun xs H Q ⟨x, Tx, e, t, q⟩ => ⟨x, Tx, e, tyF_tyN t, q⟩
end
theorem tyF_lst {H : Hp} {p : Addr} {xs : List V} (h : H p = some (.lst xs)) : tyF H (.ref p) = some "list" := by unfold tyF; dsimp only; rw [h]
theorem tyF_non {H : Hp} : tyF H .non = some "NoneType" := rfl
theorem tyF_bl {H : Hp} {b : Bool} : tyF H (.bl b) = some "bool" := rfl
theorem tyF_int {H : Hp} {i : Int} : tyF H (.int i) = some "int" := rfl
theorem tyF_str {H : Hp} {z : Str} : tyF H (.str z) = some "str" := rfl
theorem at0 {α : Type} {x : α} {r : List α} : atI (x :: r) 0 = some x := atI_nat (j := 0) rfl
theorem at1 {α : Type} {x y : α} {r : List α} : atI (x :: y :: r) 1 = some y := atI_nat (j := 1) rfl
theorem at2 {α : Type} {x y z : α} {r : List α} : atI (x :: y :: z :: r) 2 = some z := atI_nat (j := 2) rfl
theorem at3 {α : Type} {x y z t : α} {r : List α} : atI (x :: y :: z :: t :: r) 3 = some t := atI_nat (j := 3) rfl
theorem at4 {α : Type} {x y z t u : α} {r : List α} : atI (x :: y :: z :: t :: u :: r) 4 = some u := atI_nat (j := 4) rfl
theorem at5 {α : Type} {x y z t u v : α} {r : List α} : atI (x :: y :: z :: t :: u :: v :: r) 5 = some v := atI_nat (j := 5) rfl
theorem at6 {α : Type} {x y z t u v w : α} {r : List α} : atI (x :: y :: z :: t :: u :: v :: w :: r) 6 = some w := atI_nat (j := 6) rfl
theorem at7 {α : Type} {x y z t u v w x' : α} {r : List α} : atI (x :: y :: z :: t :: u :: v :: w :: x' :: r) 7 = some x' := atI_nat (j := 7) rfl
theorem at8 {α : Type} {x y z t u v w x' y' : α} {r : List α} : atI (x :: y :: z :: t :: u :: v :: w :: x' :: y' :: r) 8 = some y' := atI_nat (j := 8) rfl
theorem same_put {H H' : Hp} {D : Addr} {o : HO} (g : Same H H') (h : H D = none) : Same H (upd H' D o) := fun b u q => by
  rw [upd_ne (ne_of_none q h)]
  exact g b u q
end L2
set_option Elab.async false
set_option linter.all false
set_option maxRecDepth 100000
set_option maxHeartbeats 4000000
namespace L2
open PySem PySem.Spec PyProof.Rows
section
variable {X : Cx}
theorem SlR.imp {r r' : V → Option Int → Option Int → Hp → VK → Prop} (h : SlR X r) (i : ∀ x lo hi H Q, r' x lo hi H Q → r x lo hi H Q) : SlR X r' := fun pins s σ H x v vl vu lo hi sl Q I rx hs pl pu q => h pins s σ H x v vl vu lo hi sl Q I rx hs pl pu (i x lo hi H Q q)
def rSlH : V → Option Int → Option Int → Hp → VK → Prop := fun x lo hi H Q => ∃ a xs, x = .ref a ∧ H a = some (.lst xs) ∧ ∀ p, H p = none → Q (.ref p) (upd H p (.lst (cutV xs lo hi)))
def rListH : List V → Hp → VK → Prop := fun xs H Q => ∃ p ys, xs = [.ref p] ∧ (H p = some (.lst ys) ∨ H p = some (.tup ys)) ∧ ∀ l, H l = none → Q (.ref l) (upd H l (.lst ys))
theorem call_listH : CallR X (.type "list") rListH := call_list_of.imp fun xs H Q ⟨p, ys, e, h, q⟩ => ⟨p, ys, e, h.imp .of .of, q⟩
def rIntB : List V → Hp → VK → Prop := fun xs H Q => ∃ k, xs = [.bl k] ∧ Q (.int (if k = true then 1 else 0)) H
theorem tyV_of {K : PySem.W.Frag} {H : Hp} {p : Addr} {xs : List V} (h : H p = some (.lst xs)) : tyV K "list" (.ref p) H := .inl ⟨rfl, xs, .of h⟩
theorem bt_max : bootBuiltins "max" = some (.builtin "max") := by decide +kernel
end
section
variable {prog : Program} {w : World} {A : Around} {E : Value → Shared → Prop}
end
section
variable {X : Cx} {pos p2 : Pos}
end
end L2
set_option Elab.async false
set_option linter.all false
set_option maxRecDepth 100000
set_option maxHeartbeats 4000000
namespace L2
open PySem PySem.Spec PyProof.Rows
def ForW (J : It) (g : TG) (tb : TS) (D : Ends) (σ : St) (H : Hp) : Prop := ∃ W : Nat → Nat → St → Hp → Prop, (∃ m, W 0 m σ H) ∧ ∀ i m σ H, W i m σ H →
  (J.stop i H ∧ D.nx σ H) ∨ (J.go i H ∧ ∃ N : St → Hp → Prop, (∀ σ' H', N σ' H' → ∃ m', m' < m ∧ W (i + 1) m' σ' H') ∧ ∀ x H', J.yld i H x H' → g x σ H' fun σ2 H2 => tb { D with nx := N, ct := N, bk := D.nx } σ2 H2)
theorem tFor_mk {wi : TI} {g : TG} {tb : TS} {D : Ends} {σ : St} {H : Hp} (h : wi σ H fun J H1 => ForW J g tb D σ H1) : tFor wi g tb D σ H := h
section
open PySem.W
variable {M : Model} {K : PySem.W.Frag}
end
section
variable {X : Cx} {body suite : List Stmt} {b₀ : Stmt} {x nm : Str} {np hpos pos : Pos} {i : Nat} {C : Addr} {tb : XK → TS} {th : TS}
end
end L2
set_option Elab.async false
set_option linter.all false
set_option maxRecDepth 100000
set_option maxHeartbeats 4000000
namespace L2
open PySem PySem.Spec PyProof.Rows
section
variable {X : Cx}
end
end L2
set_option Elab.async false
set_option linter.all false
set_option maxRecDepth 100000
set_option maxHeartbeats 4000000
namespace L2
open PySem PySem.Spec PyProof.Rows
section
open PySem.SeqAt
open PySem.AutoSeq1 (wpAny_loadPart')
open PySem.MeetsSeq PySem.MeetsSeq2 PySem.MeetsSeq3
end
section
variable {X : Cx}
end
section
variable {X : Cx} {pos : Pos}
def gTupH (n : Nat) (t : TGs) : TG := fun v σ H Q => ∃ a xs, v = .ref a ∧ H a = some (.tup xs) ∧ xs.length = n ∧ t xs σ H Q
theorem pg_tupH {es : List Expr} {k : Nat} {t : TGs} {n : Nat} (hc : X.calm = true) (h : PGs X es t) (hn : (assignEach es X.env).length = n := by rfl) (hst : (assignEach es X.env).findIdx? (·.1) = none := by rfl) : PG X (.Tuple es k pos) (gTupH n t) :=
  fun pins s σ H v u Q I r hw => pg_tup hc h hn hst pins s σ H v u Q I r (by
    obtain ⟨a, xs, e, q, l, z⟩ := hw
    exact ⟨a, xs, e, .of q, l, z⟩)
end
end L2
set_option Elab.async false
set_option linter.all false
set_option maxRecDepth 100000
set_option maxHeartbeats 4000000
namespace L2
open PySem PySem.Spec PyProof.Rows
section
variable {prog : Program} {w : World} {A : Around} {E : Value → Shared → Prop} {s : Shared}
end
section
variable {prog : Program} {w : World} {A : Around} {E : Value → Shared → Prop} {s : Shared}
end
section
variable {X : Cx}
end
section
variable {X : Cx}
end
end L2
set_option Elab.async false
set_option linter.all false
set_option maxRecDepth 100000
set_option maxHeartbeats 4000000
namespace L2
open PySem PySem.Spec PyProof.Rows
open PySem.Builtin PySem.Builtin.Str
section
variable {X : Cx}
end
section
variable {X : Cx} {tg : Expr}
end
end L2
set_option Elab.async false
set_option linter.all false
set_option maxRecDepth 100000
set_option maxHeartbeats 4000000
namespace L2
open PySem PySem.Spec PyProof.Rows
section
variable {X : Cx}
end
section
variable {P : Program} {w : World} {K : PySem.W.Frag} {mg : Str → Option Value} {base : Heap} {N : List Str} {qual : Str} {scope : Scope} {f : Addr} {cd : Value} {A : Around} {outer : List Env} {s₀ : Shared} {H₀ : Hp} {E : XK}
end
end L2
set_option Elab.async false
set_option linter.all false
set_option maxRecDepth 100000
set_option maxHeartbeats 4000000
namespace L2
open PySem PySem.Spec PyProof.Rows
open PySem.W (KasT kas_asc kas_desc kas_rev kas_tail3 kas_descPart kas_count kas_place kas_bin kas_sort kas_ask kas_item)
def ansT {α : Type} (ans : Nat → Nat → Bool) : KasT α → α
  | .ret a => a
  | .ask i j k => ansT ans (k (ans i j))
def Asks {α : Type} (n : Nat) (R : α → Prop) : KasT α → Prop
  | .ret a => R a
  | .ask i j k => i < n ∧ j < n ∧ ∀ b, Asks n R (k b)
theorem Asks.bind {α β : Type} {n : Nat} {R : α → Prop} {S : β → Prop} {f : α → KasT β} : ∀ {t : KasT α}, Asks n R t → (∀ a, R a → Asks n S (f a)) → Asks n S (t.bind f)
  | .ret a, h, k => k a h
  | .ask i j g, h, k => ⟨h.1, h.2.1, fun b => Asks.bind (h.2.2 b) k⟩
theorem Asks.ends {α : Type} {n : Nat} {R : α → Prop} {ans : Nat → Nat → Bool} : ∀ {t : KasT α}, Asks n R t → R (ansT ans t)
  | .ret _, h => h
  | .ask i j g, h => Asks.ends (n := n) (t := g (ans i j)) (h.2.2 (ans i j))
theorem Asks.wp {α : Type} {n : Nat} {R : α → Prop} {ans : Nat → Nat → Bool} {cmp : Nat → Nat → (Bool → Shared → Prop) → Shared → Prop} {s : Shared} {Q : α → Shared → Prop} (hc : ∀ i j C, i < n → j < n → C (ans i j) s → cmp i j C s) :
    ∀ {t : KasT α}, Asks n R t → Q (ansT ans t) s → t.kasWp cmp Q s
  | .ret _, _, q => q
  | .ask i j g, h, q => hc i j _ h.1 h.2.1 (Asks.wp (n := n) (t := g (ans i j)) hc (h.2.2 (ans i j)) q)
def Ord (n : Nat) (p : Array Nat) : Prop := p.toList.Perm (List.range n)
theorem Ord.get {n : Nat} {p : Array Nat} (h : Ord n p) (hn : 0 < n) (i : Nat) : p.getD i 0 < n := by
  by_cases hi : i < p.size
  · have e : p.getD i 0 = p[i] := by simp [Array.getD, hi]
    rw [e]
    exact List.mem_range.mp (h.mem_iff.mp (by simp))
  · have e : p.getD i 0 = 0 := by simp [Array.getD, hi]
    rw [e]
    exact hn
theorem Ord.of {n : Nat} {p q : Array Nat} (h : Ord n p) (e : q.Perm p) : Ord n q := (Array.perm_iff_toList_perm.mp e).trans h
theorem Ord.rev {n : Nat} {p : Array Nat} (h : Ord n p) (i j : Nat) : Ord n (kas_rev p i j) := h.of (mirror_perm _ _ _ _)
theorem asks_asc {n : Nat} {p : Array Nat} (h : Ord n p) (hn : 0 < n) : ∀ (f m : Nat), Asks n (fun _ => True) (kas_asc p f m)
  | 0, _ => trivial
  | f + 1, m => ⟨h.get hn _, h.get hn _, fun b => by
    cases b with
    | true => dsimp only; rw [if_pos rfl]; trivial
    | false => dsimp only; rw [if_neg (by decide)]; exact asks_asc h hn f (m + 1)⟩
theorem asks_desc {n : Nat} (hn : 0 < n) : ∀ (f : Nat) {p : Array Nat} (m q : Nat), Ord n p → Asks n (fun r => Ord n r.1) (kas_desc f p m q)
  | 0, _, _, _, h => h
  | f + 1, p, m, q, h => ⟨h.get hn _, h.get hn _, fun b => by
    cases b with
    | true =>
      dsimp only
      rw [if_pos rfl]
      by_cases z : q > 0
      · rw [if_pos z]; exact asks_desc hn f _ _ (h.rev _ _)
      · rw [if_neg z]; exact asks_desc hn f _ _ h
    | false =>
      dsimp only
      rw [if_neg (by decide)]
      refine ⟨h.get hn _, h.get hn _, fun d => ?_⟩
      cases d with
      | true => dsimp only; rw [if_pos rfl]; exact h
      | false => dsimp only; rw [if_neg (by decide)]; exact asks_desc hn f _ _ h⟩
theorem asks_tail3 {n a b : Nat} {p : Array Nat} (hn : 0 < n) (h : Ord n p) : Asks n (fun r => Ord n r.2) (kas_tail3 a b p) :=
  Asks.bind (asks_asc (h.rev _ _) hn _ _) fun _ _ => h.rev _ _
theorem asks_descPart {n a b : Nat} {p : Array Nat} (hn : 0 < n) (h : Ord n p) : Asks n (fun r => Ord n r.2) (kas_descPart a b p) :=
  Asks.bind (asks_desc hn _ _ _ h) fun r hr => by
    by_cases z : r.2.2 > 0
    · rw [if_pos z]; exact asks_tail3 hn (hr.rev _ _)
    · rw [if_neg z]; exact asks_tail3 hn hr
theorem asks_count {n b : Nat} {p : Array Nat} (hn : 0 < n) (h : Ord n p) : Asks n (fun r => Ord n r.2) (kas_count b p) :=
  Asks.bind (asks_asc h hn _ _) fun m _ => by
    by_cases z : (m == b) = true
    · rw [if_pos z]; exact h
    · rw [if_neg z]
      by_cases y : m > 1
      · rw [if_pos y]
        refine ⟨h.get hn _, h.get hn _, fun c => ?_⟩
        cases c with
        | true => dsimp only; rw [if_pos rfl]; exact h
        | false => dsimp only; rw [if_neg (by decide)]; exact asks_descPart hn (h.rev _ _)
      · rw [if_neg y]; exact asks_descPart hn h
theorem asks_place {n : Nat} {p : Array Nat} (hn : 0 < n) (h : Ord n p) (k : Nat) : ∀ (f l r : Nat), Asks n (fun _ => True) (kas_place p k f l r)
  | 0, _, _ => trivial
  | f + 1, l, r => by
    unfold kas_place
    by_cases z : l ≥ r
    · rw [if_pos z]; trivial
    · rw [if_neg z]
      refine ⟨h.get hn _, h.get hn _, fun c => ?_⟩
      cases c with
      | true => dsimp only; rw [if_pos rfl]; exact asks_place hn h k f _ _
      | false => dsimp only; rw [if_neg (by decide)]; exact asks_place hn h k f _ _
theorem asks_bin {n : Nat} (hn : 0 < n) : ∀ (f : Nat) {p : Array Nat} (k : Nat), Ord n p → Asks n (Ord n) (kas_bin f p k)
  | 0, _, _, h => h
  | f + 1, p, k, h => Asks.bind (asks_place hn h k _ _ _) fun l _ => asks_bin hn f (k + 1) (h.of (bubble_perm _ _ _))
theorem asks_sort {n : Nat} (hn : 0 < n) : Asks n (Ord n) (kas_sort n) :=
  Asks.bind (asks_count hn (by unfold Ord; simp)) fun r hr => by
    by_cases z : r.1 < n
    · rw [if_pos z]; exact asks_bin hn _ _ hr
    · rw [if_neg z]; exact hr
def Keeps (g h : Heap) : Prop := ∀ b o, g.get? b = some o → h.get? b = some o
theorem Keeps.push {g h : Heap} (k : Keeps g h) (o : Obj) : Keeps g (h.push o) := fun b x e => Heap.get?_push_of_some _ (k b x e)
theorem Keeps.upd {g h : Heap} {a : Addr} {f : Obj → Obj} (k : Keeps g h) (ha : g.objs.size ≤ a) : Keeps g (h.update a f) := fun b x e => by
  rw [Heap.get?_update_ne _ _ _ _ (Nat.ne_of_lt (Nat.lt_of_lt_of_le (Heap.lt_size e) ha))]
  exact k b x e
theorem range_getD (vs : List Value) : ((List.range vs.length).map fun i => vs.getD i Value.none) = vs := by
  refine List.ext_getElem (by simp) fun i h1 h2 => ?_
  have hi : i < vs.length := h2
  simp [hi]
section
variable {prog : Program} {w : World} {A : Around} {E : Value → Shared → Prop} {s : Shared} {vs : List Value} {κ : SortKind} {ans : Nat → Nat → Bool} {g : Heap}
theorem sort_at {a : Addr} {n : Nat} {P : PySem.Fin → Shared → Prop} (hg : Keeps g s.heap) (ga : g.objs.size ≤ a) (ho : s.heap.get? a = some (seqObj "list" vs.toArray n)) (h64 : vs.length < 64)
    (hk : 2 ≤ vs.length → ∀ h', Keeps g h' → ∀ Q', Q' κ { s with heap := h' } → wpAny (model prog w) A (keyKind' vs.toArray) Q' (fun _ _ => False) { s with heap := h' })
    (ha : 2 ≤ vs.length → ∀ h', Keeps g h' → ∀ i j C, i < vs.length → j < vs.length → C (ans i j) { s with heap := h' } → kas_ask prog w A κ vs i j C { s with heap := h' })
    (q : ∀ (p : Array Nat) h' c, Keeps g h' → Ord vs.length p → (2 ≤ vs.length → p = ansT ans (kas_sort vs.length)) → h'.get? a = some (seqObj "list" (List.toArray (p.toList.map fun i => vs.getD i Value.none)) c) → P (.done (.ret .none)) { s with heap := h' }) :
    wpAny (model prog w) A (Builtin.«list.sort» ⟨[.ref a], []⟩) P E s := by
  have z0 : vs.toArray.size = vs.length := rfl
  have zl : vs.length ≤ sizeLine := Nat.le_trans (Nat.le_of_lt h64) (by decide)
  have k1 : Keeps g (s.heap.update a (Obj.mapSeq fun _ => (#[] : Array Value))) := hg.upd ga
  obtain ⟨e1, o1⟩ : ∃ e1, (s.heap.update a (Obj.mapSeq fun _ => (#[] : Array Value))).get? a = some (seqObj "list" #[] e1) := ⟨_, get?_update_seq ho _⟩
  have k3 := (k1.push (seqObj "tuple" vs.toArray 0)).push (seqObj "list" #[] 0)
  have o3 := Heap.get?_push_of_some (seqObj "list" #[] 0) (Heap.get?_push_of_some (seqObj "tuple" vs.toArray 0) o1)
  have fin : ∀ (p : Array Nat), p.size = vs.length → Ord vs.length p → (2 ≤ vs.length → p = ansT ans (kas_sort vs.length)) → ∀ (st : SortSt), (arrOf st).map (·.2) = List.toArray (p.toList.map fun i => vs.getD i Value.none) → failedOf st = none →
      P (.done (.ret .none)) { s with heap := (((s.heap.update a (Obj.mapSeq fun _ => (#[] : Array Value))).push (seqObj "tuple" vs.toArray 0)).push (seqObj "list" #[] 0)).update a (Obj.mapSeq fun _ => (arrOf st).map (·.2)) } := fun p hp or e st hs _ => by
    rw [hs]
    exact q p _ _ (k3.upd ga) or e (get?_update_seq o3 fun _ => List.toArray (p.toList.map fun i => vs.getD i Value.none))
  rw [list_sort_plain]
  refine wpAny_bind (listItems_at ho rfl (wpAny_bind (listUpdate_at ho rfl (wpAny_bind (seqEpoch_at o1 rfl (wpAny_bind (wpAny_newTuple (wpAny_bind (wpAny_newList (wpAny_holding ?_) (Nat.zero_le _))) zl)))) zl (Nat.zero_le _))))
  dsimp only
  by_cases h2 : vs.length < 2
  · rw [z0, if_pos h2, if_pos h2, pure_bind]
    have hs : (arrOf (SortSt.mk' general' (vs.toArray.zip vs.toArray) #[] 7 none)).map (·.2) = List.toArray ((List.toArray (List.range vs.length)).toList.map fun i => vs.getD i Value.none) := by
      show (vs.toArray.zip vs.toArray).map (·.2) = _
      rw [show (List.toArray (List.range vs.length)).toList = List.range vs.length from rfl, range_getD]
      apply Array.toList_inj.mp
      simp [List.map_snd_zip]
    rw [StateT.run_pure]
    refine wpAny_bind (wpAny_pure (wpAny_bind (seqEpoch_at o3 rfl (wpAny_bind (listUpdate_at o3 rfl ?_ (Nat.zero_le _) ?_)))))
    · simp only [show failedOf (SortSt.mk' general' (vs.toArray.zip vs.toArray) #[] 7 none) = none from rfl, bne_self_eq_false, Bool.false_eq_true, if_false]
      exact wpAny_pure (fin (List.toArray (List.range vs.length)) (by simp) (by unfold Ord; simp) (fun z => absurd h2 (Nat.not_lt.mpr z)) _ hs rfl)
    · rw [hs]
      simp
      omega
  · have h2' : 2 ≤ vs.length := by omega
    rw [z0, if_neg h2, if_neg h2]
    refine wpAny_bind (hk h2' _ k3 _ ?_ |> fun x => wpAny_mono x (fun _ _ y => y) fun _ _ z => z.elim)
    have run := Asks.wp (R := Ord vs.length) (Q := fun p s' => s' = { s with heap := ((s.heap.update a (Obj.mapSeq fun _ => (#[] : Array Value))).push (seqObj "tuple" vs.toArray 0)).push (seqObj "list" #[] 0) } ∧ Ord vs.length p ∧ p = ansT ans (kas_sort vs.length)) (fun i j C hi hj => ha h2' _ k3 i j C hi hj) (asks_sort (by omega)) ⟨rfl, Asks.ends (asks_sort (by omega)), rfl⟩
    refine wpAny_bind (wpAny_mono (PySem.W.kat_run (E := E) (ks := vs) (vs := vs) (Q := fun st s' => ∃ p : Array Nat, p.size = vs.length ∧ arrOf st = p.map (kas_item (vs.toArray.zip vs.toArray)) ∧ failedOf st = none ∧ s' = { s with heap := ((s.heap.update a (Obj.mapSeq fun _ => (#[] : Array Value))).push (seqObj "tuple" vs.toArray 0)).push (seqObj "list" #[] 0) } ∧ Ord vs.length p ∧ p = ansT ans (kas_sort vs.length)) rfl h2' h64 (fun p st s' b1 b2 b3 b4 => ⟨p, b1, b2, b3, b4⟩) run) ?_ fun _ _ e => e)
    rintro ⟨⟨⟩, st⟩ s' ⟨p, hp, har, hf, rfl, or, e⟩
    have hs := PySem.W.kat_snds (ks := vs) (vs := vs) rfl har
    dsimp only
    refine wpAny_bind (seqEpoch_at o3 rfl (wpAny_bind (listUpdate_at o3 rfl ?_ (Nat.zero_le _) ?_)))
    · rw [hf]
      simp only [bne_self_eq_false, Bool.false_eq_true, if_false]
      exact wpAny_pure (fin p hp or (fun _ => e) st hs hf)
    · rw [hs]
      simp [hp]
      omega
end
end L2
set_option Elab.async false
set_option linter.all false
set_option maxRecDepth 100000
set_option maxHeartbeats 4000000
namespace L2
open PySem PySem.Spec PyProof.Rows
open PySem.W (KasT kas_sort kas_ask)
section
open PySem.SeqAt
open PySem.AutoSeq1 (wpAny_loadPart')
open PySem.MeetsSeq PySem.MeetsSeq2 PySem.MeetsSeq3
theorem ltRc {A : Around} {s : Shared} {a c : Int} {t u : Tok} (prog : Program) (w : World) (E : Value → Shared → Prop) (Q : Value → Shared → Prop) (h : Q (.bool (decide (a < c))) s) : wpAny (model prog w) A (richCompare .Lt (.int a t) (.int c u)) Q E s :=
  (PyProof.Rows.lt_int h : wpAny (model prog w) A (compareOp .Lt (.int a t) (.int c u)) Q E s)
theorem tupleLt (l b : Addr) (items items2 : Array Value) (n n2 : Nat) (dd dd2 : Option Addr) (sl sl2 : Array (Option Value)) (ns ms : List Int) (hlen : ns.length = ms.length) (hi : IntsAre items.toList ns) (hj : IntsAre items2.toList ms) :
    Meets (Builtin.«tuple.__lt__» ⟨[.ref l, .ref b], []⟩)
      (fun _ R s => s.heap.get? l = some { cls := .type "tuple", dict := dd, data := .seq items n, slots := sl } ∧ s.heap.get? b = some { cls := .type "tuple", dict := dd2, data := .seq items2 n2, slots := sl2 } ∧ R (.ok (.ret (.bool (HT.lexLt ns ms)))) s) :=
  .of_wp fun prog w A R s h => by
    obtain ⟨hp, g, d, tk, os⟩ := s
    obtain ⟨hl, hb, h⟩ := h
    have f2 := AutoSeq1.sub_tuple_tuple
    have z1 : items.size = ns.length := by rw [← hi.length]; simp
    have z2 : items2.size = ms.length := by rw [← hj.length]; simp
    wp_walk using wpAny_loadPart' hl, wpAny_loadPart' hb, wpAny_forIn_list _ (fun rest b s' => b.1 = none ∧ s' = ⟨hp, g, d, tk, os⟩ ∧ ∃ (vs ws : List Value) (ns' ms' : List Int), rest = vs.zip ws ∧ IntsAre vs ns' ∧ IntsAre ws ms' ∧ ns'.length = ms'.length ∧ R (.ok (.ret (.bool (HT.lexLt ns' ms')))) ⟨hp, g, d, tk, os⟩) _
    case turn =>
      rintro ⟨y, x⟩ rest b s' ⟨hb', rfl, vs, ws, ns', ms', hz, hvi, hwi, hln, hR⟩
      cases hvi with
      | nil => rw [List.zip_nil_left] at hz; cases hz
      | cons a t hv =>
        cases hwi with
        | nil => rw [List.zip_nil_right] at hz; cases hz
        | cons c u hw =>
          rw [List.zip_cons_cons] at hz
          injection hz with q1 q2
          injection q1 with q3 q4
          subst q3 q4
          rw [HT.lexLt_cons] at hR
          simp only [List.length_cons] at hln
          obtain ⟨e, he, hiff⟩ := HT.eqAt_int A.in1 ⟨hp, g, d, tk, os⟩ a t c u
          refine wpAny_bind (he prog w _ _ ?_)
          cases e with
          | true =>
            rw [if_pos (hiff.mp rfl)] at hR
            wp_walk
            exact ⟨rfl, rfl, _, _, _, _, q2, hv, hw, by omega, hR⟩
          | false =>
            rw [if_neg (fun q => absurd (hiff.mpr q) Bool.false_ne_true)] at hR
            have hri := ltRc (A := A.in1) (s := ⟨hp, g, d, tk, os⟩) (a := a) (c := c) (t := t) (u := u) prog w
            wp_walk using hri
            exact ⟨_, rfl, by simpa using hR⟩
    case fin =>
      rintro ⟨b1, b2⟩ s' ⟨hb', rfl, vs, ws, ns', ms', hz, hvi, hwi, hln, hR⟩
      simp only at hb'
      subst hb'
      have hv : HT.lexLt ns' ms' = decide (items.size < items2.size) := by
        rw [decide_eq_false (by omega)]
        cases hvi with
        | nil =>
          cases hwi with
          | nil => rfl
          | cons c u hw => cases hln
        | cons a t hv =>
          cases hwi with
          | nil => cases hln
          | cons c u hw => rw [List.zip_cons_cons] at hz; cases hz
      rw [hv] at hR
      wp_walk
      exact ⟨_, rfl, by simpa [Builtin.Tuple.tupleCompareSizes] using hR⟩
    case h =>
      exact ⟨rfl, rfl, items.toList, items2.toList, ns, ms, rfl, hi, hj, hlen, h⟩
end
def TupI (h : Heap) (v : Value) (ns : List Int) : Prop := ∃ (a : Addr) (its : Array Value) (n : Nat) (dd : Option Addr) (sl : Array (Option Value)), v = .ref a ∧ h.get? a = some { cls := .type "tuple", dict := dd, data := .seq its n, slots := sl } ∧ IntsAre its.toList ns
def TupP (h : Heap) (v : Value) (ns ms : List Int) : Prop := ∃ (a : Addr) (x y : Value) (n : Nat) (dd : Option Addr) (sl : Array (Option Value)), v = .ref a ∧ h.get? a = some { cls := .type "tuple", dict := dd, data := .seq #[x, y] n, slots := sl } ∧ TupI h x ns ∧ TupI h y ms
theorem TupI.keeps {g h : Heap} {v : Value} {ns : List Int} (t : TupI g v ns) (k : Keeps g h) : TupI h v ns := by
  obtain ⟨a, its, n, dd, sl, e, o, i⟩ := t
  exact ⟨a, its, n, dd, sl, e, k _ _ o, i⟩
theorem TupP.keeps {g h : Heap} {v : Value} {ns ms : List Int} (t : TupP g v ns ms) (k : Keeps g h) : TupP h v ns ms := by
  obtain ⟨a, x, y, n, dd, sl, e, o, i, j⟩ := t
  exact ⟨a, x, y, n, dd, sl, e, k _ _ o, i.keeps k, j.keeps k⟩
theorem reads_ints {h : Heap} : ∀ {us : List Value} {ns : List Int}, IntsAre us ns → ∃ as, ReadsAll h us (ns.map PyData.int) as
  | _, _, .nil => ⟨_, .nil⟩
  | _, _, .cons n t r => let ⟨_, q⟩ := reads_ints r; ⟨_, .cons (.int n t) q⟩
theorem TupI.reads {h : Heap} {v : Value} {ns : List Int} (t : TupI h v ns) : ∃ as, Reads h v (.tuple (ns.map PyData.int)) as := by
  obtain ⟨a, its, n, dd, sl, rfl, o, i⟩ := t
  obtain ⟨as, r⟩ := reads_ints (h := h) i
  exact ⟨_, reads_tuple_at o rfl rfl (by simpa using r)⟩
theorem lay_ints : ∀ ns : List Int, PyData.canLayAll0 (ns.map PyData.int) = true
  | [] => rfl
  | n :: ns => by simp only [List.map_cons, PyData.canLayAll0, lay_ints ns, PyData.canLay0, Bool.and_self]
theorem lay_tup (ns : List Int) : PyData.canLay0 (.tuple (ns.map PyData.int)) = true := by
  simp only [PyData.canLay0, lay_ints ns]
theorem dep_ints : ∀ ns : List Int, PyData.depthAll (ns.map PyData.int) ≤ 1
  | [] => by simp [PyData.depthAll]
  | n :: ns => by
    have := dep_ints ns
    simp only [List.map_cons, PyData.depthAll, PyData.depth]
    omega
theorem eqv_ints : ∀ {ns ms : List Int}, PyData.eqvAll (ns.map PyData.int) (ms.map PyData.int) = decide (ns = ms)
  | [], [] => rfl
  | [], m :: ms => rfl
  | n :: ns, [] => rfl
  | n :: ns, m :: ms => by
    simp only [List.map_cons, PyData.eqvAll, PyData.eqv, eqv_ints]
    by_cases h1 : n = m <;> by_cases h2 : ns = ms <;> simp [h1, h2]
section
variable {prog : Program} {w : World} {A : Around} {E : Value → Shared → Prop} {s : Shared} {C : Bool → Shared → Prop}
theorem eq_tupI {x y : Value} {ns ms : List Int} (hx : TupI s.heap x ns) (hy : TupI s.heap y ms) (hu : A.units + 64 < cLine) (q : C (decide (ns = ms)) s) : wpAny (model prog w) A (eqBool x y) C E s := by
  obtain ⟨as, ra⟩ := hx.reads
  obtain ⟨bs, rb⟩ := hy.reads
  refine PySem.SeqAt.eqBoolOverData prog w A E s x y _ _ as bs C ra rb (lay_tup ns) (lay_tup ms) ?_ ?_
  · have := dep_ints ns
    have : (PyData.tuple (ns.map PyData.int)).depth ≤ 2 := by simp only [PyData.depth]; omega
    have := Nat.min_le_left (PyData.tuple (ns.map PyData.int)).depth (PyData.tuple (ms.map PyData.int)).depth
    omega
  · simp only [PyData.eqv]
    rw [eqv_ints]
    exact q
theorem lt_tupI {x y : Value} {ns ms : List Int} (hx : TupI s.heap x ns) (hy : TupI s.heap y ms) (hl : ns.length = ms.length) (hu : A.units + 64 < cLine) (q : C (HT.lexLt ns ms) s) : wpAny (model prog w) A (oneLt' false x y) C E s := by
  obtain ⟨a, its, n, dd, sl, rfl, o, i⟩ := hx
  obtain ⟨b, its2, n2, dd2, sl2, rfl, o2, i2⟩ := hy
  refine PySem.W.kat_one _ _ ?_
  exact richCompare_meets_room (op := .Lt) ⟨_, o, rfl⟩ ⟨_, o2, rfl⟩ PySem.F.slot_tuple_lt PySem.F.entry_tuple_lt (PySem.F.args_tuple_lt_2 _ _) (tupleLt a b its its2 n n2 dd dd2 sl sl2 ns ms hl i i2) ⟨o, o2, (fun z => nomatch z), q⟩ (by omega)
def ltP (a b : List Int × List Int) : Bool := if a.1 = b.1 then (if a.2 = b.2 then false else HT.lexLt a.2 b.2) else HT.lexLt a.1 b.1
theorem lt_tupP {x y : Value} {a b : List Int × List Int} (hx : TupP s.heap x a.1 a.2) (hy : TupP s.heap y b.1 b.2) (l1 : a.1.length = b.1.length) (l2 : a.2.length = b.2.length) (hu : A.units + 64 < cLine) (q : C (ltP a b) s) : wpAny (model prog w) A (keyLt' (tuples' false) x y) C E s := by
  obtain ⟨p, x1, x2, n, dd, sl, rfl, o, i1, i2⟩ := hx
  obtain ⟨p', y1, y2, n', dd', sl', rfl, o', j1, j2⟩ := hy
  unfold ltP at q
  refine PySem.W.kat_lt o rfl o' rfl (PySem.W.kat_cons (eq_tupI i1 j1 hu ?_))
  by_cases c : a.1 = b.1
  · rw [if_pos c] at q
    rw [decide_eq_true c]
    refine PySem.W.kat_yes (PySem.W.kat_cons (eq_tupI i2 j2 hu ?_))
    by_cases c2 : a.2 = b.2
    · rw [if_pos c2] at q
      rw [decide_eq_true c2]
      exact PySem.W.kat_yes (PySem.W.kat_nil q)
    · rw [if_neg c2] at q
      rw [decide_eq_false c2]
      exact PySem.W.kat_no (lt_tupI i2 j2 l2 hu q)
  · rw [if_neg c] at q
    rw [decide_eq_false c]
    exact PySem.W.kat_no (lt_tupI i1 j1 l1 hu q)
end
open PySem.W (KatTups) in
theorem ktups {h : Heap} : ∀ vs : List Value, (∀ v, v ∈ vs → ∃ a b, a ≠ [] ∧ TupP h v a b) → ∃ fs, fs.length = vs.length ∧ KatTups h vs fs ∧ ∀ f, f ∈ fs → ∃ ns, TupI h f ns
  | [], _ => ⟨[], rfl, .nil, fun f hf => by cases hf⟩
  | v :: vs, hv => by
    obtain ⟨fs, l, t, r⟩ := ktups vs fun u hu => hv u (List.mem_cons_of_mem _ hu)
    obtain ⟨a, b, ne, p, x, y, n, dd, sl, rfl, o, i, j⟩ := hv v (List.mem_cons_self ..)
    refine ⟨x :: fs, by simp [l], .cons o rfl rfl rfl t, fun f hf => ?_⟩
    rcases List.mem_cons.mp hf with rfl | hf
    · exact ⟨_, i⟩
    · exact r f hf
theorem kind_pairs {M : Model} {A : Around} {E : Value → Shared → Prop} {s : Shared} {vs : List Value} {Q : SortKind → Shared → Prop} (hn : 0 < vs.length) (hv : ∀ v, v ∈ vs → ∃ a b, a ≠ [] ∧ TupP s.heap v a b) (q : Q (tuples' false) s) : wpAny M A (keyKind' vs.toArray) Q E s := by
  obtain ⟨fs, l, t, r⟩ := ktups vs hv
  refine PySem.W.kat_kind (T := .type "tuple") t (by omega) (fun f hf => ?_) (by decide) ?_
  · obtain ⟨ns, a, its, n, dd, sl, rfl, o, _⟩ := r f hf
    exact (PySem.W.Looks.ld o).andThen .now
  · rw [show (Value.type "tuple" != Value.type "tuple") = false from by decide]
    exact q
theorem vals_at : ∀ {xs : List V} {us : List Value}, Vals xs us → ∀ i, i < xs.length → RelV (xs.getD i .non) (us.getD i Value.none)
  | _, _, .nil, i, h => by cases h
  | _, _, .cons r t, 0, _ => r
  | _, _, .cons r t, i + 1, h => vals_at t i (Nat.lt_of_succ_lt_succ h)
theorem vals_map {f : Nat → V} {g : Nat → Value} : ∀ l : List Nat, (∀ i, i ∈ l → RelV (f i) (g i)) → Vals (l.map f) (l.map g)
  | [], _ => .nil
  | i :: l, h => .cons (h i (List.mem_cons_self ..)) (vals_map l fun j hj => h j (List.mem_cons_of_mem _ hj))
section
variable {X : Cx} {pins : List (Addr × Obj)} {σ : St} {H : Hp} {s : Shared}
theorem tupI_of (I : Inv X pins σ H s) {a : Addr} {ns : List Int} (h : H a = some (.tup (ns.map V.int))) : TupI s.heap (.ref a) ns := by
  obtain ⟨its, r, ⟨⟨cls, dd, data, sl⟩, ho, hc, n, hd⟩, _⟩ := I.tuple (.of h)
  simp only at hc hd
  subst hc hd
  exact ⟨a, _, n, dd, sl, rfl, ho, intsAre_of r⟩
theorem bt_sorted : bootBuiltins "sorted" = some (.builtin "sorted") := by decide +kernel
theorem hu100 {A : Around} {k : Nat} (hr : Room k A) : A.units + 100 < cLine := by have := hr.un; omega
end
end L2
set_option Elab.async false
set_option linter.all false
set_option maxRecDepth 100000
set_option maxHeartbeats 4000000
namespace L2
open PySem PySem.Spec PyProof.Rows
section
variable {X : Cx} {tg : Expr}
end
end L2
set_option Elab.async false
set_option linter.all false
set_option maxRecDepth 100000
set_option maxHeartbeats 4000000
namespace L2
open PySem PySem.Spec PyProof.Rows
structure OnlyT (ts : List Addr) (H : Hp) : Prop where
  only : ∀ b, H b = none ∨ (∃ o xs, H b = some (.frz o (.lst xs))) ∨ (b ∈ ts ∧ H b = some (.tbl #[]))
  tabs : ∀ b, b ∈ ts → H b = some (.tbl #[])
theorem law_callT {P : Program} {w : World} {K : PySem.W.Frag} {mg mb : Str → Option Value} {CX : CXT} {k : Nat} {fa a : Addr} {fd : FuncData} {x : Str} {sp : Sp} {s₁ : Shared} {vs : List Value} {ns : List Int} {ts : List Addr}
    (KX : K.In s₁.heap) (hns : s₁.heap.Ns mainGlobals mg) (hb : s₁.heap.Ns builtinsNs mb) (hbb : ∀ x : Str, x ≠ "__name__" → mb x = bootBuiltins x) (hlim : s₁.heap.NoLimit) (hg : s₁.gens = #[])
    (ha : s₁.heap.get? a = some { cls := .type "list", data := .seq vs.toArray }) (hi : IntsAre vs ns) (hl : ns.length ≤ sizeLine) (hr : Room k callerA)
    (hT : ∀ b, b ∈ ts → s₁.heap.get? b = some (PySem.W.tabObj #[]) ∧ K.lookup b = none ∧ isCodeTable s₁.heap b)
    (hbm : ∃ bm ob, mg "__builtins__" = some (.ref bm) ∧ bm ≠ builtinsNs ∧ s₁.heap.get? bm = some ob ∧ ob.cls = .type "module" ∧ ob.dict = some builtinsNs ∧ ob.data = .plain)
    (F : ∀ base : Heap, K.In base → base.Ns mainGlobals mg → (∀ b, b ∈ ts → base.BuiltinsAt mg b) → FnOk P w K mg base CX k fa fd [x] sp) (hbind : ∀ (s : Shared) (u : Value), BindsTo s fd ⟨[u], []⟩ [(x, u)])
    (hsp : ∀ H : Hp, OnlyT ts H → SqL K H a (ns.map V.int) → sp [.ref a] H (fun v _ => v = .bl true) fun _ _ _ => False)
    (hCX : ∀ H e s', CX [] H s₁ (fun _ _ _ => False) e s' → False) :
    codeAny (model P w) callerA (.call (.ref fa) ⟨[.ref a], []⟩) (fun r s' => r = .ok (.ret (.bool true)) ∧ OldK s₁.heap s'.heap ∧ s'.os = s₁.os ∧ AllBare s'.gens) s₁ := by
  have rv := vals_ints hi
  have lenV := hi.length
  have naT : a ∉ ts := fun z => by
    have e := (hT a z).1
    rw [ha] at e
    cases e
  have core : ∀ H : Hp, OnlyT ts H → SqL K H a (ns.map V.int) → HOk P w H s₁.heap → (∀ b, H b ≠ none → b = a ∨ b ∈ ts) → (H a ≠ none → K.lookup a = none) →
      codeAny (model P w) callerA (.call (.ref fa) ⟨[.ref a], []⟩) (fun r s' => r = .ok (.ret (.bool true)) ∧ OldK s₁.heap s'.heap ∧ s'.os = s₁.os ∧ AllBare s'.gens) s₁ := by
    intro H hO hS hok hA hK
    have base_of : ∀ {b : Addr} {o : Obj}, s₁.heap.get? b = some o → H b = none → (hidT s₁.heap H).get? b = some o := fun e n => hidT_get e n
    have noD : ∀ {b : Addr} {o : Obj}, s₁.heap.get? b = some o → o.cls ≠ .none → o.cls ≠ .type "list" → H b = none := fun {b o} e d1 d2 => by
      cases q : H b with
      | none => rfl
      | some u =>
        rcases hA b (by rw [q]; simp) with e' | e'
        · subst e'
          rw [ha] at e; cases e
          exact absurd rfl d2
        · rw [(hT b e').1] at e; cases e
          exact absurd rfl d1
    have noA : ∀ {b : Addr} {o : Obj} {es : Array DictEntry} {ep : Nat}, s₁.heap.get? b = some o → o.data = .dict es ep → H b = none := fun {b o es ep} e d => by
      cases q : H b with
      | none => rfl
      | some u =>
        rcases hA b (by rw [q]; simp) with e' | e'
        · subst e'
          rw [ha] at e; cases e
          have d' : Data.seq vs.toArray _ = Data.dict es ep := d
          cases d'
        · rw [(hT b e').1] at e; cases e
          have d' : Data.fields #[] = Data.dict es ep := d
          cases d'
    have nsK : ∀ {b : Addr} {m : Str → Option Value}, s₁.heap.Ns b m → (hidT s₁.heap H).Ns b m := fun {b m} ⟨o, es, ep, e, d, r⟩ => ⟨o, es, ep, base_of e (noA e d), d, r⟩
    have hKb : K.In (hidT s₁.heap H) := fun b o e => base_of (KX b o e) (by
      cases q : H b with
      | none => rfl
      | some u =>
        rcases hA b (by rw [q]; simp) with e' | e'
        · subst e'
          rw [hK (by rw [q]; simp)] at e; cases e
        · rw [(hT b e').2.1] at e; cases e)
    have hM : Mod K mg (hidT s₁.heap H) := ⟨hKb, nsK hns, ⟨mb, nsK hb, hbb⟩, let ⟨mc, h1, h2⟩ := hlim; ⟨mc, nsK h1, h2⟩⟩
    have hB : ∀ b, b ∈ ts → (hidT s₁.heap H).BuiltinsAt mg b := fun b hb' => by
      obtain ⟨bm, ob, b1, b2, b3, b4, b5, b6⟩ := hbm
      refine ⟨bm, ob, b1, b2, fun q => ?_, fun q => ?_, base_of b3 (noD b3 (by rw [b4]; simp) (by rw [b4]; simp)), b4, b5, b6⟩
      · obtain ⟨o, es, ep, e, d, _⟩ := hns
        rw [← q, b3] at e; cases e
        rw [b6] at d; cases d
      · rw [q, (hT b hb').1] at b3; cases b3; cases b4
    have e0 : Env0 P w K mg (hidT s₁.heap H) callerA [] s₁ H := ⟨rfl, hM, fun b o e => of_hidT e, Nat.le_of_eq (hidT_size _ _), trivial, fun b hb => absurd (show b ∈ ([] : List Addr) from hb) (by simp), hok, .of_eq hg⟩
    refine codeAny_mono ((F _ hKb (nsK hns) hB).run callerA [] s₁ H ⟨[.ref a], []⟩ [.ref a] [.ref a] _ _ hr e0 (hbind s₁ (.ref a)) (.cons rfl .nil) (hsp H hO hS)) fun r s' h => ?_
    cases r with
    | error e => exact (hCX H e s' h).elim
    | ok fl =>
      cases fl with
      | next => exact False.elim h
      | brk => exact False.elim h
      | cont => exact False.elim h
      | ret u =>
        obtain ⟨v, H', os, bare, un, hok', r', q⟩ := h
        have q' : v = .bl true := q
        subst q'
        obtain rfl : u = Value.bool true := r'
        have at' : ∀ b o, s₁.heap.get? b = some o → asItWas s₁.heap s'.heap b o := fun b o e => by
          cases q : H b with
          | none => exact .inl (un.keep b o e q (by intro z; exact absurd (show b ∈ ([] : List Addr) from z) (by simp)) (by simp))
          | some u =>
            rcases hO.only b with z | ⟨ob, xs, z⟩ | ⟨hbt, z⟩
            · rw [q] at z; cases z
            · have z2 := un.frzs b ob _ z
              obtain ⟨e1, _⟩ := hok b _ z
              obtain ⟨e2, _⟩ := hok' b _ z2
              rw [e] at e1; cases e1
              exact .inl e2
            · obtain ⟨more, z2⟩ := un.tbls b _ z
              have e2 : s'.heap.get? b = some { cls := .none, data := .fields (#[] ++ more) } := hok' b _ z2
              have e1 := (hT b hbt).1
              rw [e] at e1; cases e1
              exact .inr (.inl ⟨(hT b hbt).2.2, rfl, #[], more, rfl, e2⟩)
        exact ⟨rfl, ⟨at', fun b o e => un.there b o e (by simp)⟩, os, bare⟩
  cases hk : K.lookup a with
  | some o =>
    have e := KX a o hk
    rw [ha] at e
    cases e
    refine core (fun b => if b ∈ ts then some (.tbl #[]) else none) ⟨fun b => ?_, fun b hb' => if_pos hb'⟩ (.inr ⟨_, vs.toArray, _, hk, rfl, rfl, rfl, by rw [List.size_toArray, lenV]; exact hl, by simpa using rv⟩) (fun b u z => ?_) (fun b z => ?_) fun z => absurd (if_neg naT) z
    · by_cases hbt : b ∈ ts
      · exact .inr (.inr ⟨hbt, if_pos hbt⟩)
      · exact .inl (if_neg hbt)
    · by_cases hbt : b ∈ ts
      · have z' := (if_pos hbt).symm.trans z
        cases z'
        exact (hT b hbt).1
      · have z' := (if_neg hbt).symm.trans z
        cases z'
    · by_cases hbt : b ∈ ts
      · exact .inr hbt
      · exact absurd (if_neg hbt) z
  | none =>
    refine core (fun b => if b = a then some (.frz { cls := .type "list", data := .seq vs.toArray } (.lst (ns.map V.int))) else if b ∈ ts then some (.tbl #[]) else none) ⟨fun b => ?_, fun b hb' => ?_⟩ (.inl (.inr ⟨{ cls := .type "list", data := .seq vs.toArray }, if_pos rfl⟩)) (fun b u z => ?_) (fun b z => ?_) fun _ => hk
    · by_cases hb : b = a
      · exact .inr (.inl ⟨_, _, if_pos hb⟩)
      · by_cases hbt : b ∈ ts
        · exact .inr (.inr ⟨hbt, (if_neg hb).trans (if_pos hbt)⟩)
        · exact .inl ((if_neg hb).trans (if_neg hbt))
    · have hb : ¬ b = a := fun z => naT (z ▸ hb')
      exact (if_neg hb).trans (if_pos hb')
    · by_cases hb : b = a
      · have z' := (if_pos hb).symm.trans z
        cases z'
        subst hb
        exact ⟨ha, by rw [List.length_map]; exact hl, vs, _, rv, ha⟩
      · by_cases hbt : b ∈ ts
        · have z' := ((if_neg hb).trans (if_pos hbt)).symm.trans z
          cases z'
          exact (hT b hbt).1
        · have z' := ((if_neg hb).trans (if_neg hbt)).symm.trans z
          cases z'
    · by_cases hb : b = a
      · exact .inl hb
      · by_cases hbt : b ∈ ts
        · exact .inr hbt
        · exact absurd ((if_neg hb).trans (if_neg hbt)) z
theorem walk_ofT {l : PySem.W.OpenLaw} {n k : Nat} {q : Program} {loose : List Str} {XP : (Str → Option Value) → Heap → Prop} {YP : World → Heap → Prop} {d : DefRec} {K : Params → PySem.W.Frag} {CX : World → CXT} {sp : World → List Addr → Sp} {x : Str} {ds : List Str}
    (hn : l.most = some n) (hn2 : n ≤ sizeLine) (hdf : d.params.defaults = []) (hr : Room k callerA)
    (hY : ∀ (w : World) (h : Heap), YP w h → (K w.params).In h)
    (hD : ∀ y, y ∈ ds → ∃ e, (recsOf q).find? (fun e => e.name == y) = some e)
    (F : ∀ (w : World) (mg : Str → Option Value) (fa : Addr) (h : Heap), (K w.params).In h → h.Ns mainGlobals mg → mg d.name = some (.ref fa) →
      ∃ (fd : FuncData) (ts : List Addr), (∀ b, b ∈ ts → (K w.params).lookup b = none ∧ ∃ y c, y ∈ ds ∧ PySem.W.tabIn (K w.params) y = some (c, b)) ∧ (∀ (s : Shared) (u : Value), BindsTo s fd ⟨[u], []⟩ [(x, u)]) ∧
        ∀ base : Heap, (K w.params).In base → base.Ns mainGlobals mg → (∀ b, b ∈ ts → base.BuiltinsAt mg b) → FnOk l.prog w (K w.params) mg base (CX w) k fa fd [x] (sp w ts))
    (hsp : ∀ (w : World) (H : Hp) (a : Addr) (ns : List Int) (ts : List Addr), ns.length ≤ n → OnlyT ts H → SqL (K w.params) H a (ns.map V.int) → sp w ts [.ref a] H (fun v _ => v = .bl true) fun _ _ _ => False)
    (hCX : ∀ (w : World) (H : Hp) (s : Shared) (e : Value) (s' : Shared), CX w [] H s (fun _ _ _ => False) e s' → False) :
    PySem.W.WalkO q loose XP YP l.row.toRowW d [] (fun f vs => PySem.call f vs) := by
  refine Att.attach_call hn hdf fun w s₀ s₁ mg mb fa o pm cd doc a vs ns G Y ho hd hcd hmg hobj hints hlen hg => ?_
  have KX := hY w _ Y
  obtain ⟨fd, ts, ht, hb, hF⟩ := F w mg fa _ KX G.T.g hmg
  refine law_callT (ts := ts) KX G.T.g G.T.b G.T.builtins G.T.nolimit hg hobj hints (Nat.le_trans hlen hn2) hr (fun b hb' => ?_) G.T.bmain hF hb (fun H hO hS => hsp w H a ns ts hlen hO hS) fun H e s' => hCX w H s₁ e s'
  obtain ⟨hk, y, c, hy, e⟩ := ht b hb'
  obtain ⟨r, hr'⟩ := hD y hy
  obtain ⟨C, hP⟩ := PySem.W.tab_of G.T KX hr' e
  exact ⟨hP, hk, (C.tab hP).isCodeTable⟩
end L2
set_option Elab.async false
set_option linter.all false
set_option maxRecDepth 100000
set_option maxHeartbeats 4000000
namespace L2
open PySem PySem.Spec PyProof.Rows
open PySem.W (kla_fn kla_obj envX tabObj CodeHd)
structure LamScope (x y : Str) (sc : Scope) : Prop where
  kind : sc.kind = .function
  co : sc.isCoroutine = false
  gen : sc.isGenerator = false
  par : sc.names.lookup x = some .local
  cap : sc.names.lookup y = some .free
  nocell : ∀ z, z ∈ sc.names → z.2 ≠ .cell
  free : ∀ z, z ∈ sc.names → z.2 = .free → z.1 = y
def cxLam (P : Program) (w : World) (K : PySem.W.Frag) (mg : Str → Option Value) (base : Heap) (x y : Str) (qual : Str) (sc : Scope) (f : Addr) (cd : Value) (c : Addr) (A : Around) (outer : List Env) (s : Shared) (H : Hp) : Cx where
  prog := P
  w := w
  K := K
  mg := mg
  base := base
  A := A.deeper (envX qual sc s.heap.objs.size f cd [(y, c)])
  N := [x, y]
  s₀ := s
  H₀ := H
  env := envX qual sc s.heap.objs.size f cd [(y, c)]
  outer := outer
  stack := envX qual sc s.heap.objs.size f cd [(y, c)] :: outer
  ex := []
  calm := true
  fn := fun _ => false
  pn := []
  xe := fun _ _ => False
theorem lookup_one {y z : Str} {c d : Addr} (h : ([(y, c)] : List (Str × Addr)).lookup z = some d) : z = y ∧ d = c := by
  rw [List.lookup_cons] at h
  by_cases e : z = y
  · subst e
    rw [beq_self_eq_true] at h
    cases h
    exact ⟨rfl, rfl⟩
  · rw [beq_eq_false_iff_ne.mpr e] at h
    cases h
theorem lookup_self (y : Str) (c : Addr) : ([(y, c)] : List (Str × Addr)).lookup y = some c := by rw [List.lookup_cons, beq_self_eq_true]
theorem inv_lam {P : Program} {w : World} {K : PySem.W.Frag} {mg : Str → Option Value} {base : Heap} {x y qual : Str} {sc : Scope} {f c : Addr} {cd : Value} {A : Around} {outer : List Env} {s : Shared} {H : Hp} {u uy : Value} {v vy : V} {h₁ : Heap} {tk : Nat}
    (S : LamScope x y sc) (hd : A.handled = none) (e0 : Env0 P w K mg base A outer s H) (ru : RelV v u) (ry : RelV vy uy) (hc : s.heap.IsCell c (some uy)) (hcn : H c = none)
    (hns : h₁.Ns s.heap.objs.size (fun z => ([(x, u)] : List (Str × Value)).reverse.lookup z)) (hk : ∀ b o, s.heap.get? b = some o → h₁.get? b = some o) :
    Inv (cxLam P w K mg base x y qual sc f cd c A outer s H) [] [some v, some vy] H { s with heap := h₁, toks := tk } := by
  have noA : ∀ b : Addr, b ∉ (cxLam P w K mg base x y qual sc f cd c A outer s H).ex := fun b z => absurd (show b ∈ ([] : List Addr) from z) (by simp)
  refine ⟨⟨e0.mod, S.kind, rfl, rfl, Nat.le_refl _, fun y1 z1 d h1 h2 => ?_, fun z hz => ?_, fun z d hf _ => ?_, fun _ => hd, Around.frames_deeper e0.frames, .inr ⟨rfl, rfl⟩, fun b z => absurd z (noA b), e0.bs, e0.bsz, fun b _ _ => noA b, fun b z => absurd z (noA b), e0.funs, e0.frf⟩,
    rfl, e0.bare, Un.kept hk, ⟨_, hns, fun i z v' h1 h2 h3 => ?_⟩, fun z d h => ?_, e0.hok.fresh (Nat.le_refl _), fun z d h => ?_, fun p hp => absurd (show p ∈ ([] : List (Addr × Obj)) from hp) (by simp), e0.hok.kept hk, rfl⟩
  · exact (lookup_one h1).1.trans (lookup_one h2).1.symm
  · have hz : sc.names.lookup z = some .cell ∨ sc.names.lookup z = some .free := hz
    rcases hz with hz | hz
    · exact absurd rfl (S.nocell _ (PySem.mem_of_lookup hz))
    · have e := S.free _ (PySem.mem_of_lookup hz) rfl
      have e : z = y := e
      subst e
      exact ⟨c, lookup_self _ _⟩
  · cases hf
  · match i, h1, h2 with
    | 0, h1, h2 =>
      cases h1
      cases h2
      refine ⟨u, ru, .inl ⟨S.par, ?_⟩⟩
      show ([(x, u)] : List (Str × Value)).reverse.lookup x = some u
      simp
    | 1, h1, h2 =>
      cases h1
      cases h2
      obtain ⟨o, ho, hd'⟩ := hc
      exact ⟨uy, ry, .inr ⟨.inr S.cap, c, lookup_self _ _, o, hk _ _ ho, hd'⟩⟩
  · obtain ⟨_, rfl⟩ := lookup_one h
    obtain ⟨o, ho, hd'⟩ := hc
    exact ⟨_, o, hk _ _ ho, hd'⟩
  · obtain ⟨_, rfl⟩ := lookup_one h
    exact hcn
section
variable {X : Cx} {pins : List (Addr × Obj)} {σ : St} {H : Hp} {s : Shared}
theorem lam_run {A : Around} {k : Nat} {x y name qual : Str} {params : Arguments} {body : Expr} {sc : Scope} {fa c c' : Addr} {pm ctv u uy : Value} {v vy : V} {te : TE} {Q : VK} (I : Inv X pins σ H s)
    (e0 : Env0 X.prog X.w X.K X.mg X.base A X.stack s H) (hr : Room k A) (S : LamScope x y sc) (ho : s.heap.get? fa = some (kla_obj name qual params body sc [(y, c)] pm c' ctv)) (hcd : s.heap.CodeRec (.ref c') qual)
    (hb : bindArgs (kla_fn name qual params body sc [(y, c)] pm (.ref c') ctv) ⟨[u], []⟩ = pure [(x, u)]) (ru : RelV v u) (ry : RelV vy uy) (hc : s.heap.IsCell c (some uy)) (hcn : H c = none)
    (hbody : PE (cxLam X.prog X.w X.K X.mg X.base x y qual sc fa (.ref c') c A X.stack s H) body te) (q : te [some v, some vy] H Q) :
    wpAny (model X.prog X.w) A (call (.ref fa) [u]) (EP X pins σ Q) (fun _ _ => False) s := by
  refine wpAny_call (codeAny_mono (R := CR CX0 X.stack X.prog X.w H s Q E0) ?_ fun r s' hq => ?_)
  · refine PySem.W.kla_callFunE hr.depth ho rfl S.co S.gen rfl hcd ?_
    rw [hb]
    refine wpAny_pure (wpAny_newFunctionEnv S.nocell (fun z hz => ?_) (fun h₁ hns hsb => ⟨I.nolimit.fresh _ hsb, ?_⟩) S.kind)
    · rw [List.mem_singleton] at hz
      rw [hz]
      exact S.par
    · show codeAny _ _ (.expr body (envX qual sc s.heap.objs.size fa (.ref c') [(y, c)])) _ _
      have kp : ∀ d u, s.heap.get? d = some u → h₁.get? d = some u := fun d u z => hsb.extBut d u (Nat.ne_of_lt (Heap.lt_size z)) (Heap.get?_push_of_some _ z)
      have J := inv_lam (tk := s.toks + 1) (f := fa) (qual := qual) (cd := .ref c') S hr.hd e0 ru ry hc hcn hns kp
      refine PySem.W.kla_codeExpr (wpAny_mono (hbody [] _ _ H Q J q) (fun r s' hs => ?_) fun e s' hs => hs.elim)
      obtain ⟨v', H', J', r', q'⟩ := hs
      exact ⟨v', H', J'.os, J'.bare, J'.base, J'.hok, r', q'⟩
  · cases r with
    | error e => exact hq.elim
    | ok fl =>
      cases fl with
      | ret u => exact I.after hq
      | next => exact False.elim hq
      | brk => exact False.elim hq
      | cont => exact False.elim hq
end
end L2
set_option Elab.async false
set_option linter.all false
set_option maxRecDepth 100000
set_option maxHeartbeats 4000000
namespace L2
open PySem PySem.Spec PyProof.Rows
open PySem.W (kla_fn kla_obj envX tabObj CodeHd)
def codeX (c : Addr) (q : Str) : HO := .ext fun h => h.CodeRec (.ref c) q
def LamTab (H : Hp) (P : Addr) (pos : Pos) (q : Str) : Prop := ∃ ps, H P = some (.tbl ps) ∧ TriplesOk ps.toList ∧ (codeAmong pos ps.toList = none ∨ ∃ c, codeAmong pos ps.toList = some (.ref c) ∧ H c = some (codeX c q))
def SameT (P : Addr) (H H' : Hp) : Prop := ∀ b o, b ≠ P → H b = some o → H' b = some o
theorem SameT.refl (P : Addr) (H : Hp) : SameT P H H := fun _ _ _ h => h
theorem SameT.of {P : Addr} {H H' : Hp} (g : Same H H') : SameT P H H' := fun b o _ h => g b o h
theorem SameT.trans {P : Addr} {H H1 H2 : Hp} (a : SameT P H H1) (b : SameT P H1 H2) : SameT P H H2 := fun c o n h => b c o n (a c o n h)
theorem LamTab.same {H H' : Hp} {P : Addr} {pos : Pos} {q : Str} (h : LamTab H P pos q) (g : Same H H') : LamTab H' P pos q := by
  obtain ⟨ps, e, t, z⟩ := h
  refine ⟨ps, g _ _ e, t, ?_⟩
  rcases z with z | ⟨c, z, y⟩
  · exact .inl z
  · exact .inr ⟨c, z, g _ _ y⟩
section
variable {X : Cx} {pins : List (Addr × Obj)} {σ : St} {H : Hp} {s : Shared}
theorem lam_make {params : Arguments} {body : Expr} {sc : Scope} {pos : Pos} {c0 P : Addr} {clos : List (Str × Addr)} {Q : Value → Shared → Prop} (I : Inv X pins σ H s) (hcode : X.env.code = .ref c0) (C : CodeHd X.base c0 P) (hB : X.base.BuiltinsAt X.mg P)
    (hcl : closureFor sc X.env = pure clos) (hdef : defaultsOf params X.env = ([], [])) (ht : LamTab H P pos (X.env.qual ++ "<lambda>"))
    (q : ∀ (fa c' : Addr) (ctv : Value) (H' : Hp) (s' : Shared), Inv X pins σ H' s' → SameT P H H' → LamTab H' P pos (X.env.qual ++ "<lambda>") → s'.heap.get? fa = some (kla_obj "<lambda>" (X.env.qual ++ "<lambda>") params body sc clos ((X.mg "__name__").getD .none) c' ctv) →
      H' c' = some (codeX c' (X.env.qual ++ "<lambda>")) → FpOk X pins H' fa → Q (.ref fa) s') :
    wpAny (model X.prog X.w) X.A (eval (.Lambda params body sc pos) X.env) Q X.xe s := by
  obtain ⟨ps, hP, tr, alt⟩ := ht
  have hPh : s.heap.get? P = some (tabObj ps) := I.hok P _ hP
  have kb := I.bk
  have hg : s.heap.Ns mainGlobals X.mg := I.ok.mod.glob.keeps kb
  have Cs := C.keeps kb
  have Bs : s.heap.BuiltinsAt X.mg P := by
    obtain ⟨bm, o, b1, b2, b3, b4, b5, b6⟩ := hB
    exact ⟨bm, o, b1, b2, b3, b4, kb _ _ b5, b6⟩
  have neG : mainGlobals ≠ P := fun z => by
    obtain ⟨o, es, ep, e, hd, _⟩ := hg
    rw [z, hPh] at e; cases e; cases hd
  refine PySem.W.kla_eval hdef ?_
  rcases alt with hn | ⟨c', hf, hc'⟩
  · refine PySem.W.kla_makeFunction hcl I.ok.glob hg hcode Cs hPh tr hn neG Bs fun c' ctv h' tk hx hge hlt hrec htb => ?_
    have neC : ∀ b u, H b = some u → b ≠ c' := fun b u e z => by
      rw [z, I.hok.fresh hge] at e; cases e
    have nP : ∀ b, H b = none → b ≠ P := fun b n z => by rw [z, hP] at n; cases n
    have cP : c' ≠ P := fun z => by rw [← z, I.hok.fresh hge] at hP; cases hP
    have keep : ∀ b o, b ≠ P → s.heap.get? b = some o → (h'.push (kla_obj "<lambda>" (X.env.qual ++ "<lambda>") params body sc clos ((X.mg "__name__").getD .none) c' ctv)).get? b = some o := fun b o n e => Heap.get?_push_of_some _ (hx b o n e)
    have hP' := Heap.get?_push_of_some (kla_obj "<lambda>" (X.env.qual ++ "<lambda>") params body sc clos ((X.mg "__name__").getD .none) c' ctv) htb
    have upP : ∀ b u, b ≠ P → H b = some u → upd (upd H P (.tbl (ps ++ #[rawInt pos.line, rawInt pos.col, .ref c']))) c' (codeX c' (X.env.qual ++ "<lambda>")) b = some u := fun b u n e => by rw [upd_ne (neC b u e), upd_ne n]; exact e
    have up0 : upd (upd H P (.tbl (ps ++ #[rawInt pos.line, rawInt pos.col, .ref c']))) c' (codeX c' (X.env.qual ++ "<lambda>")) P = some (.tbl (ps ++ #[rawInt pos.line, rawInt pos.col, .ref c'])) := by rw [upd_ne cP.symm, upd_same]
    have J : Inv X pins σ (upd (upd H P (.tbl (ps ++ #[rawInt pos.line, rawInt pos.col, .ref c']))) c' (codeX c' (X.env.qual ++ "<lambda>"))) { s with heap := h'.push (kla_obj "<lambda>" (X.env.qual ++ "<lambda>") params body sc clos ((X.mg "__name__").getD .none) c' ctv), toks := tk } := by
      refine I.step (g' := s.gens) (d' := s.drawn) (ch := []) (fun _ z => nomatch z) (fun b o _ _ _ e n => keep b o (nP b n) e) (fun b o _ _ _ e n => ⟨o.slots, keep b o (nP b n) e⟩) (fun b o _ e n => ?_) (fun b o _ e => ?_) (fun b xs e => ?_) (fun b o u e => ?_) (fun b qs e => ?_) (fun m hm => ?_) (fun b u e => ?_) I.bare
      · rw [upd_ne (Nat.ne_of_lt (Nat.lt_of_lt_of_le (Heap.lt_size e) hge)), upd_ne (nP b n)]
        exact n
      · by_cases z : b = P
        · exact ⟨_, z ▸ hP'⟩
        · exact ⟨o, keep b o z e⟩
      · exact upP b _ (fun z => by rw [z, hP] at e; cases e) e
      · exact upP b _ (fun z => by rw [z, hP] at e; cases e) e
      · by_cases z : b = P
        · subst z
          rw [hP] at e
          cases e
          exact ⟨_, up0⟩
        · exact ⟨#[], by rw [upP b _ z e]; simp⟩
      · obtain ⟨o, es, ep, ho, r⟩ := hm
        exact ⟨o, es, ep, keep _ o (nP _ I.free) ho, r⟩
      · by_cases z : b = c'
        · subst z
          rw [upd_same] at e
          cases e
          have hr2 := hrec.push (kla_obj "<lambda>" (X.env.qual ++ "<lambda>") params body sc clos ((X.mg "__name__").getD .none) b ctv)
          obtain ⟨c2, oc, vs, t, e2, hoc, hd, hv⟩ := id hr2
          cases e2
          refine ⟨hr2, ⟨oc, hoc⟩, fun h1 h2 ph k => ?_⟩
          obtain ⟨c3, oc3, vs3, t3, e3, hoc3, hd3, hv3⟩ := ph
          cases e3
          exact ⟨_, oc3, vs3, t3, rfl, k _ hoc3, hd3, hv3⟩
        · rw [upd_ne z] at e
          by_cases y : b = P
          · subst y
            rw [upd_same] at e
            cases e
            exact hP'
          · rw [upd_ne y] at e
            refine (I.hok b u e).stay (fun d v hd hv => keep d v ?_ hv) (fun d hd => ?_) fun d xs hd => ?_
            · rcases hd with rfl | hd
              · exact y
              · intro z'; rw [z', hP] at hd; cases hd
            · exact upP d _ (fun z' => by rw [z', hP] at hd; cases hd) hd
            · exact upP d _ (fun z' => by rw [z', hP] at hd; cases hd) hd
    refine q h'.objs.size c' ctv _ _ J (fun b o n e => upP b o n e) ⟨_, up0, ?_, .inr ⟨c', ?_, upd_same⟩⟩ (Heap.get?_push_size _ rfl) upd_same ?_
    · rw [Array.toList_append]
      exact TriplesOk_snoc _ _ _ _ tr
    · rw [Array.toList_append]
      exact codeAmong_snoc _ tr hn
    · have hsz : s.heap.objs.size ≤ h'.objs.size := Nat.le_trans hge (Nat.le_of_lt hlt)
      have nf : upd (upd H P (.tbl (ps ++ #[rawInt pos.line, rawInt pos.col, .ref c']))) c' (codeX c' (X.env.qual ++ "<lambda>")) h'.objs.size = none := by
        rw [upd_ne (Nat.ne_of_gt hlt), upd_ne]
        · exact I.hok.fresh hsz
        · intro z
          rw [← z, I.hok.fresh hsz] at hP
          cases hP
      exact I.fpOk hsz nf
  · have hrec : s.heap.CodeRec (.ref c') (X.env.qual ++ "<lambda>") := (I.hok c' _ hc').1
    refine PySem.W.kla_makeFunctionHit hcl I.ok.glob hg hcode Cs hPh tr hf Bs fun ctv h' tk hk hsz => ?_
    have J : Inv X pins σ H { s with heap := h'.push { cls := .type "function", data := .func (kla_fn "<lambda>" (X.env.qual ++ "<lambda>") params body sc clos ((X.mg "__name__").getD .none) (.ref c') ctv) }, toks := tk } := I.kept fun b o e => Heap.get?_push_of_some _ (hk b o e)
    exact q h'.objs.size c' ctv H _ J (.refl P H) ⟨ps, hP, tr, .inr ⟨c', hf, hc'⟩⟩ (Heap.get?_push_size _ rfl) hc' (I.fpOk hsz (I.hok.fresh hsz))
end
end L2
set_option Elab.async false
set_option linter.all false
set_option maxRecDepth 100000
set_option maxHeartbeats 4000000
namespace L2
open PySem PySem.Spec PyProof.Rows
open PySem.W (KasT kas_sort kas_ask kas_item)
section
variable {prog : Program} {w : World} {A : Around} {E : Value → Shared → Prop} {s : Shared} {vs ks : List Value} {g : Heap} {a kS : Addr} {e e1 : Nat} {f : Value}
def KeyFin (prog : Program) (w : World) (A : Around) (a kS : Addr) (e1 : Nat) (vs ks : List Value) (P : PySem.Fin → Shared → Prop) (s : Shared) : Prop :=
  s.heap.get? a = some (seqObj "list" #[] e1) ∧ ∃ (κ : SortKind) (ans : Nat → Nat → Bool),
    (2 ≤ vs.length → ∀ Q' : SortKind → Shared → Prop, Q' κ s → wpAny (model prog w) A (keyKind' ks.toArray) Q' (fun _ _ => False) s) ∧
    (2 ≤ vs.length → ∀ i j C, i < vs.length → j < vs.length → C (ans i j) s → kas_ask prog w A κ ks i j C s) ∧
    ∀ p : Array Nat, Ord vs.length p → (2 ≤ vs.length → p = ansT ans (kas_sort vs.length)) → P (.done (.ret .none)) { s with heap := (s.heap.update kS (Obj.mapSeq fun _ => (#[] : Array Value))).update a (Obj.mapSeq fun _ => List.toArray (p.toList.map fun i => vs.getD i Value.none)) }
theorem keyed_tail {st : SortSt} {p : Array Nat} {P : PySem.Fin → Shared → Prop} (hs : (arrOf st).map (·.2) = List.toArray (p.toList.map fun i => vs.getD i Value.none)) (hf : failedOf st = none) (hz : p.size = vs.length) (h64 : vs.length < 64) (hkl : ks.length < 64) (nak : a ≠ kS)
    (hk : s.heap.get? kS = some (seqObj "list" ks.toArray e)) (ha : s.heap.get? a = some (seqObj "list" #[] e1))
    (q : P (.done (.ret .none)) { s with heap := (s.heap.update kS (Obj.mapSeq fun _ => (#[] : Array Value))).update a (Obj.mapSeq fun _ => List.toArray (p.toList.map fun i => vs.getD i Value.none)) }) :
    wpAny (model prog w) A (ksk_tail a false e1 (.ref kS) st) P E s := by
  have ha2 : (s.heap.update kS (Obj.mapSeq fun _ => (#[] : Array Value))).get? a = some (seqObj "list" #[] e1) := by rw [Heap.get?_update_ne _ _ _ _ nak]; exact ha
  have hsz : (List.toArray (p.toList.map fun i => vs.getD i Value.none)).size = vs.length := by simp [hz]
  unfold ksk_tail
  dsimp only
  rw [hs]
  refine wpAny_bind (listUpdate_at hk rfl ?_ (by rw [List.size_toArray, sizeLine_eq]; omega) (Nat.zero_le _))
  refine wpAny_bind (wpAny_letGo ?_)
  refine wpAny_bind (seqEpoch_at ha2 rfl ?_)
  refine wpAny_bind (listUpdate_at ha2 rfl ?_ (Nat.zero_le _) (by simp only [Bool.false_eq_true, if_false]; rw [hsz, sizeLine_eq]; omega))
  rw [hf]
  simp only [bne_self_eq_false, Bool.false_eq_true, if_false]
  exact wpAny_pure q
theorem keyed_end {P : PySem.Fin → Shared → Prop} (hl : ks.length = vs.length) (h64 : vs.length < 64) (nak : a ≠ kS) (hk : s.heap.get? kS = some (seqObj "list" ks.toArray e)) (h : KeyFin prog w A a kS e1 vs ks P s) :
    wpAny (model prog w) A (ksk_end a false vs.toArray e1 (.ref kS) ks.toArray) P E s := by
  obtain ⟨ha, κ, ans, hkind, hask, q⟩ := h
  have z0 : vs.toArray.size = vs.length := rfl
  unfold ksk_end
  dsimp only
  simp only [Bool.false_eq_true, if_false]
  by_cases h2 : vs.length < 2
  · rw [z0, if_pos h2, if_pos h2, pure_bind]
    rw [StateT.run_pure]
    refine wpAny_bind (wpAny_pure ?_)
    refine keyed_tail (p := List.toArray (List.range vs.length)) ?_ rfl (by simp) h64 (by omega) nak hk ha (q _ (by unfold Ord; simp) fun z => absurd h2 (Nat.not_lt.mpr z))
    show (ks.toArray.zip vs.toArray).map (·.2) = _
    rw [show (List.toArray (List.range vs.length)).toList = List.range vs.length from rfl, range_getD]
    apply Array.toList_inj.mp
    simp [List.map_snd_zip, hl]
  · have h2' : 2 ≤ vs.length := by omega
    rw [z0, if_neg h2, if_neg h2]
    refine wpAny_bind (wpAny_mono (hkind h2' (fun κ' s' => κ' = κ ∧ s' = s) ⟨rfl, rfl⟩) (fun κ' s' hs => ?_) fun _ _ z => z.elim)
    obtain ⟨rfl, rfl⟩ := hs
    have run := Asks.wp (R := Ord vs.length) (Q := fun p s'' => s'' = s' ∧ Ord vs.length p ∧ p = ansT ans (kas_sort vs.length)) (fun i j C hi hj => hask h2' i j C hi hj) (asks_sort (by omega)) ⟨rfl, Asks.ends (asks_sort (by omega)), rfl⟩
    refine wpAny_bind (wpAny_mono (PySem.W.kat_run (E := E) (ks := ks) (vs := vs) (Q := fun st s'' => ∃ p : Array Nat, p.size = vs.length ∧ arrOf st = p.map (kas_item (ks.toArray.zip vs.toArray)) ∧ failedOf st = none ∧ s'' = s' ∧ Ord vs.length p ∧ p = ansT ans (kas_sort vs.length)) hl h2' h64 (fun p st s'' b1 b2 b3 b4 => ⟨p, b1, b2, b3, b4⟩) run) ?_ fun _ _ z => z)
    rintro ⟨⟨⟩, st⟩ s'' ⟨p, hp, har, hf, rfl, or, ep⟩
    exact keyed_tail (PySem.W.kat_snds hl har) hf hp h64 (by omega) nak hk ha (q p or fun _ => ep)
structure KeyRun (prog : Program) (w : World) (A : Around) (a kS : Addr) (e1 : Nat) (f : Value) (vs : List Value) (P : PySem.Fin → Shared → Prop) (J : Nat → List Value → Nat → Shared → Prop) : Prop where
  store : ∀ i ks e s, J i ks e s → s.heap.get? kS = some (seqObj "list" ks.toArray e) ∧ ks.length = i
  turn : ∀ i x ks e s, vs[i]? = some x → J i ks e s → wpAny (model prog w) A (call f [x]) (fun k s' => s'.heap.get? kS = some (seqObj "list" ks.toArray e) ∧
    ∀ c, (s'.heap.update kS (Obj.mapSeq (·.push k))).get? kS = some (seqObj "list" (ks ++ [k]).toArray c) → J (i + 1) (ks ++ [k]) c { s' with heap := s'.heap.update kS (Obj.mapSeq (·.push k)) }) (fun _ _ => False) s
  fin : ∀ ks e s, J vs.length ks e s → KeyFin prog w A a kS e1 vs ks P s
theorem keyed_fold {P : PySem.Fin → Shared → Prop} {J : Nat → List Value → Nat → Shared → Prop} {body : Value → PUnit → Sem (ForInStep PUnit)} (R : KeyRun prog w A a kS e1 f vs P J)
    (hb : ∀ i x ks e (s : Shared), vs[i]? = some x → J i ks e s → wpAny (model prog w) A (body x ⟨⟩) (fun r s' => r = .yield ⟨⟩ ∧ ∃ k c, J (i + 1) (ks ++ [k]) c s') E s) :
    ∀ (r : List Value) (i : Nat) (ks : List Value) (e : Nat) (s : Shared), i ≤ vs.length → vs.drop i = r → J i ks e s → wpAny (model prog w) A (forIn r PUnit.unit body) (fun _ s' => ∃ ks e, J vs.length ks e s') E s
  | [], i, ks, e, s, hi, hr, h => by
    rw [List.forIn_nil]
    have e0 : i = vs.length := Nat.le_antisymm hi (List.drop_eq_nil_iff.mp hr)
    subst e0
    exact wpAny_pure ⟨ks, e, h⟩
  | x :: r, i, ks, e, s, hi, hr, h => by
    rw [List.forIn_cons]
    have hx : vs[i]? = some x := by
      have z := congrArg (fun l => l[0]?) hr
      simpa [List.getElem?_drop] using z
    have hr2 : vs.drop (i + 1) = r := by
      have z := congrArg (List.drop 1) hr
      simpa [List.drop_drop, Nat.add_comm] using z
    refine wpAny_bind (wpAny_mono (hb i x ks e s hx h) (fun q s' hq => ?_) fun _ _ z => z)
    obtain ⟨rfl, k, c, h2⟩ := hq
    exact keyed_fold R hb r (i + 1) (ks ++ [k]) c s' (List.getElem?_eq_some_iff.mp hx).1 hr2 h2
theorem keyed_rest {P : PySem.Fin → Shared → Prop} {J : Nat → List Value → Nat → Shared → Prop} (R : KeyRun prog w A a kS e1 f vs P J) (h64 : vs.length < 64) (nak : a ≠ kS) (h0 : J 0 [] 0 s) :
    wpAny (model prog w) A (ksk_rest a f false vs.toArray e1 (.ref kS)) P E s := by
  unfold ksk_rest
  refine wpAny_bind (wpAny_rule ?_)
  rw [List.forIn_toArray]
  refine wpAny_bind (wpAny_mono (keyed_fold R (fun i x ks e s' hx hJ => ?_) vs 0 [] 0 s (Nat.zero_le _) List.drop_zero h0) (fun _ s' hd => ?_) fun _ _ z => z)
  · have hi := (List.getElem?_eq_some_iff.mp hx).1
    have hl := (R.store i ks e s' hJ).2
    refine wpAny_bind (wpAny_attempt (wpAny_mono (R.turn i x ks e s' hx hJ) (fun k s'' hk => ?_) fun _ _ hF => hF.elim))
    obtain ⟨hk1, hk2⟩ := hk
    have pk : (List.toArray ks).push k = List.toArray (ks ++ [k]) := by rw [List.push_toArray]
    obtain ⟨c2, hc2⟩ : ∃ c2, (s''.heap.update kS (Obj.mapSeq (·.push k))).get? kS = some (seqObj "list" (List.toArray (ks ++ [k])) c2) := ⟨_, by rw [← pk]; exact get?_update_seq hk1 (·.push k)⟩
    try dsimp only
    refine wpAny_bind (listUpdate_at hk1 rfl ?_ (by rw [List.size_toArray, sizeLine_eq]; omega) (Nat.le_trans (Nat.le_of_eq (Array.size_push ..)) (by rw [List.size_toArray, sizeLine_eq]; omega)))
    exact wpAny_pure ⟨rfl, k, c2, hk2 c2 hc2⟩
  · obtain ⟨ks, e, hJ⟩ := hd
    obtain ⟨hk, hl⟩ := R.store _ _ _ _ hJ
    try dsimp only
    refine wpAny_bind (listItems_at hk rfl ?_)
    exact keyed_end hl h64 nak hk (R.fin ks e s' hJ)
theorem keyed_tree {n : Nat} {P : PySem.Fin → Shared → Prop} (hg : Keeps g s.heap) (ga : g.objs.size ≤ a) (ho : s.heap.get? a = some (seqObj "list" vs.toArray n)) (h64 : vs.length < 64)
    (h : ∀ kS e1 h', Keeps g h' → a < kS → h'.get? a = some (seqObj "list" #[] e1) → h'.get? kS = some (seqObj "list" #[] 0) → ∃ J, KeyRun prog w A a kS e1 f vs P J ∧ J 0 [] 0 { s with heap := h' }) :
    wpAny (model prog w) A (ksk_tree a f false) P E s := by
  have zl : vs.length ≤ sizeLine := Nat.le_trans (Nat.le_of_lt h64) (by decide)
  have k1 : Keeps g (s.heap.update a (Obj.mapSeq fun _ => (#[] : Array Value))) := hg.upd ga
  obtain ⟨c1, o1⟩ : ∃ c1, (s.heap.update a (Obj.mapSeq fun _ => (#[] : Array Value))).get? a = some (seqObj "list" #[] c1) := ⟨_, get?_update_seq ho _⟩
  have k3 := (k1.push (seqObj "tuple" vs.toArray 0)).push (seqObj "list" #[] 0)
  have o3 := Heap.get?_push_of_some (seqObj "list" #[] 0) (Heap.get?_push_of_some (seqObj "tuple" vs.toArray 0) o1)
  have lt : a < ((s.heap.update a (Obj.mapSeq fun _ => (#[] : Array Value))).push (seqObj "tuple" vs.toArray 0)).objs.size := Heap.lt_size (Heap.get?_push_of_some _ o1)
  obtain ⟨J, R, h0⟩ := h _ c1 _ k3 lt o3 (Heap.get?_push_size _ rfl)
  unfold ksk_tree
  refine wpAny_bind (listItems_at ho rfl (wpAny_bind (listUpdate_at ho rfl (wpAny_bind (seqEpoch_at o1 rfl (wpAny_bind (wpAny_newTuple (wpAny_bind (wpAny_newList (wpAny_holding ?_) (Nat.zero_le _))) zl)))) zl (Nat.zero_le _))))
  exact keyed_rest (s := { s with heap := ((s.heap.update a (Obj.mapSeq fun _ => (#[] : Array Value))).push (seqObj "tuple" vs.toArray 0)).push (seqObj "list" #[] 0) }) R h64 (Nat.ne_of_lt lt) h0
theorem sortedK_at {l fa : Addr} {Q : Value → Shared → Prop} (hl : s.heap.IsList l vs.toArray) (h64 : vs.length < 64)
    (h : ∀ D kS e1 h', D = s.heap.objs.size + 1 → Keeps s.heap h' → D < kS → h'.get? D = some (seqObj "list" #[] e1) → h'.get? kS = some (seqObj "list" #[] 0) → ∃ J, KeyRun prog w A.in1.in1 D kS e1 (.ref fa) vs (fun r s' => r = .done (.ret .none) → Q (.ref D) s') J ∧ J 0 [] 0 { s with heap := h' }) :
    wpAny (model prog w) A (call (.builtin "sorted") [.ref l] [(Str.ofString "key", .ref fa)]) Q E s := by
  have zl : vs.length ≤ sizeLine := Nat.le_trans (Nat.le_of_lt h64) (by decide)
  have k0 : Keeps s.heap s.heap := fun _ _ e => e
  have k2 := ((k0.push (seqObj "list" #[] 0)).upd (a := s.heap.objs.size) (f := Obj.mapSeq (· ++ vs.toArray)) (Nat.le_refl _)).push (seqObj "list" vs.toArray 0)
  have z2 : ((s.heap.push (seqObj "list" #[] 0)).update s.heap.objs.size (Obj.mapSeq (· ++ vs.toArray))).objs.size = s.heap.objs.size + 1 := by
    rw [Heap.size_update, size_push']
  have o2 : (((s.heap.push (seqObj "list" #[] 0)).update s.heap.objs.size (Obj.mapSeq (· ++ vs.toArray))).push (seqObj "list" vs.toArray 0)).get? (s.heap.objs.size + 1) = some (seqObj "list" vs.toArray 0) :=
    z2 ▸ Heap.get?_push_size _ rfl
  refine call_function_entry_kw kind_sorted plain_sorted entry_sorted (ksk_s1 _ _) ?_
  unfold Builtin.«sorted»
  refine wpAny_bind (m := checkCount _ _ _ _) (wpAny_pure (wpAny_bind (collect_list hl (wpAny_bind (wpAny_newList ?_ zl)) zl)))
  rw [show (({ s with heap := (s.heap.push (seqObj "list" #[] 0)).update s.heap.objs.size (Obj.mapSeq (· ++ vs.toArray)) } : Shared).heap.objs.size) = s.heap.objs.size + 1 from z2]
  refine wpAny_bind (wpAny_holding (wpAny_call_entry_kw slot_list_sort ⟨_, o2, rfl⟩ entry_list_sort ?body (ksk_l1 _ _)))
  case body =>
    show wpAny (model prog w) A.in1.in1 (Builtin.«list.sort» ⟨[.ref (s.heap.objs.size + 1)], [(Str.ofString "key", .ref fa)]⟩) _ _ _
    rw [ksk_t1]
    refine wpAny_mono (keyed_tree (s := { s with heap := ((s.heap.push (seqObj "list" #[] 0)).update s.heap.objs.size (Obj.mapSeq (· ++ vs.toArray))).push (seqObj "list" vs.toArray 0) }) (P := fun r s' => r = .done (.ret .none) ∧ (r = .done (.ret .none) → Q (.ref (s.heap.objs.size + 1)) s')) k2 (Nat.le_succ _) o2 h64 fun kS e1 h' kk lt ha hk => ?_) (fun r s' hq => ?_) fun _ _ z => z
    · obtain ⟨J, R, h0⟩ := h _ kS e1 h' rfl kk lt ha hk
      refine ⟨J, ⟨R.store, R.turn, fun ks e s' hJ => ?_⟩, h0⟩
      obtain ⟨f1, κ, ans, f2, f3, f4⟩ := R.fin ks e s' hJ
      exact ⟨f1, κ, ans, f2, f3, fun p or ep => ⟨rfl, f4 p or ep⟩⟩
    · obtain ⟨rfl, hq⟩ := hq
      exact ⟨_, rfl, wpAny_pure ⟨_, rfl, hq rfl⟩⟩
end
end L2
set_option Elab.async false
set_option linter.all false
set_option maxRecDepth 100000
set_option maxHeartbeats 4000000
namespace L2
open PySem PySem.Spec PyProof.Rows
open PySem.W (kla_fn kla_obj envX tabObj CodeHd KasT kas_sort kas_ask)
def ltK (a b : Int × Int) : Bool := if a.1 = b.1 then (if a.2 = b.2 then false else decide (a.2 < b.2)) else decide (a.1 < b.1)
section
variable {prog : Program} {w : World} {A : Around} {E : Value → Shared → Prop} {s : Shared} {C : Bool → Shared → Prop}
theorem eq_ii {a b : Int} {t u : Tok} (hu : A.units + 64 < cLine) (q : C (decide (a = b)) s) : wpAny (model prog w) A (eqBool (.int a t) (.int b u)) C E s := by
  refine PySem.SeqAt.eqBoolOverData prog w A E s _ _ (.int a) (.int b) _ _ C (.int a t) (.int b u) rfl rfl ?_ ?_
  · have : PyData.depth (.int a) ≤ 1 := by simp [PyData.depth]
    have := Nat.min_le_left (PyData.depth (.int a)) (PyData.depth (.int b))
    omega
  · simp only [PyData.eqv]
    by_cases h : a = b
    · rw [decide_eq_true h] at q
      simpa [h] using q
    · rw [decide_eq_false h] at q
      have : (a == b) = false := beq_eq_false_iff_ne.mpr h
      rw [this]
      exact q
theorem lt_pairI {x y : Value} {a b : Int × Int} (hx : TupI s.heap x [a.1, a.2]) (hy : TupI s.heap y [b.1, b.2]) (hu : A.units + 64 < cLine) (q : C (ltK a b) s) : wpAny (model prog w) A (keyLt' (tuples' true) x y) C E s := by
  obtain ⟨p, its, n, dd, sl, rfl, o, i⟩ := hx
  obtain ⟨p', its', n', dd', sl', rfl, o', i'⟩ := hy
  obtain ⟨u1, u2, e, t1, t2⟩ : ∃ u1 u2, its.toList = [u1, u2] ∧ (∃ t, u1 = .int a.1 t) ∧ ∃ t, u2 = .int a.2 t := by
    revert i
    generalize its.toList = l
    intro i
    cases i with
    | cons k t r =>
      cases r with
      | cons k2 t2 r2 =>
        cases r2
        exact ⟨_, _, rfl, ⟨_, rfl⟩, ⟨_, rfl⟩⟩
  obtain ⟨u1', u2', e', t1', t2'⟩ : ∃ u1 u2, its'.toList = [u1, u2] ∧ (∃ t, u1 = .int b.1 t) ∧ ∃ t, u2 = .int b.2 t := by
    revert i'
    generalize its'.toList = l
    intro i
    cases i with
    | cons k t r =>
      cases r with
      | cons k2 t2 r2 =>
        cases r2
        exact ⟨_, _, rfl, ⟨_, rfl⟩, ⟨_, rfl⟩⟩
  obtain ⟨t1, rfl⟩ := t1
  obtain ⟨t2, rfl⟩ := t2
  obtain ⟨t1', rfl⟩ := t1'
  obtain ⟨t2', rfl⟩ := t2'
  have z : its.size = 2 := by rw [← Array.length_toList, e]; rfl
  have z' : its'.size = 2 := by rw [← Array.length_toList, e']; rfl
  refine PySem.W.kat_lt o rfl o' rfl ?_
  rw [e, e', z, z', decide_eq_false (by omega)]
  unfold ltK at q
  refine PySem.W.kat_cons (eq_ii hu ?_)
  by_cases c : a.1 = b.1
  · rw [if_pos c] at q
    rw [decide_eq_true c]
    refine PySem.W.kat_yes (PySem.W.kat_cons (eq_ii hu ?_))
    by_cases c2 : a.2 = b.2
    · rw [if_pos c2] at q
      rw [decide_eq_true c2]
      exact PySem.W.kat_yes (PySem.W.kat_nil q)
    · rw [if_neg c2] at q
      rw [decide_eq_false c2]
      exact PySem.W.kat_no (PySem.W.kat_one _ _ (PyProof.Rows.lt_int q))
  · rw [if_neg c] at q
    rw [decide_eq_false c]
    exact PySem.W.kat_no (oneLt_int q)
end
open PySem.W (KatTups) in
theorem ktupsI {h : Heap} : ∀ vs : List Value, (∀ v, v ∈ vs → ∃ a : Int × Int, TupI h v [a.1, a.2]) → ∃ fs, fs.length = vs.length ∧ KatTups h vs fs ∧ ∀ f, f ∈ fs → ∃ n t, f = .int n t
  | [], _ => ⟨[], rfl, .nil, fun f hf => by cases hf⟩
  | v :: vs, hv => by
    obtain ⟨fs, l, t, r⟩ := ktupsI vs fun u hu => hv u (List.mem_cons_of_mem _ hu)
    obtain ⟨a, p, its, n, dd, sl, rfl, o, i⟩ := hv v (List.mem_cons_self ..)
    obtain ⟨u1, t1, e⟩ : ∃ u1 t, its[0]? = some u1 ∧ u1 = .int a.1 t := by
      rw [← Array.getElem?_toList]
      revert i
      generalize its.toList = l
      intro i
      cases i with
      | cons k t r => exact ⟨_, t, rfl, rfl⟩
    refine ⟨u1 :: fs, by simp [l], .cons o rfl rfl e.1 t, fun f hf => ?_⟩
    rcases List.mem_cons.mp hf with rfl | hf
    · exact ⟨_, t1, e.2⟩
    · exact r f hf
theorem kind_ints {M : Model} {A : Around} {E : Value → Shared → Prop} {s : Shared} {vs : List Value} {Q : SortKind → Shared → Prop} (hn : 0 < vs.length) (hv : ∀ v, v ∈ vs → ∃ a : Int × Int, TupI s.heap v [a.1, a.2]) (q : Q (tuples' true) s) : wpAny M A (keyKind' vs.toArray) Q E s := by
  obtain ⟨fs, l, t, r⟩ := ktupsI vs hv
  refine PySem.W.kat_kind (T := .type "int") t (by omega) (fun f hf => ?_) (by decide) ?_
  · obtain ⟨n, t, rfl⟩ := r f hf
    exact .now
  · rw [show (Value.type "int" != Value.type "tuple") = true from by decide]
    exact q
section
variable {X : Cx} {pins : List (Addr × Obj)} {σ : St} {H : Hp} {s : Shared}
theorem Inv.track {D : Addr} {h' : Heap} {xs : List V} {its : List Value} {n : Nat} {t' : Nat} (I : Inv X pins σ H s) (hf : FpOk X pins H D) (k : ∀ b o, b ≠ D → s.heap.get? b = some o → h'.get? b = some o)
    (hz : xs.length ≤ sizeLine) (r : Vals xs its) (ho : h'.get? D = some { cls := .type "list", data := .seq its.toArray n }) : Inv X pins σ (upd H D (.lst xs)) { s with heap := h', toks := t' } := by
  obtain ⟨f0, f1, f2, f3, f4, f5⟩ := hf
  have nD : ∀ b u, H b = some u → b ≠ D := fun b u e z => by rw [z, f0] at e; cases e
  refine I.step (g' := s.gens) (d' := s.drawn) (ch := [D]) (fun b hb => ?_) (fun b o _ _ hc e _ => k b o (fun z => hc (by simp [z])) e) (fun b o _ _ hc e _ => ⟨o.slots, k b o (fun z => hc (by simp [z])) e⟩) (fun b o hc _ n => by rw [upd_ne fun z => hc (by simp [z])]; exact n)
    (fun b o hc e => ⟨o, k b o (fun z => hc (by simp [z])) e⟩) (fun b xs e => by rw [upd_ne (nD b _ e)]; exact e) (fun b o u e => by rw [upd_ne (nD b _ e)]; exact e) (fun b ps e => ⟨#[], by rw [upd_ne (nD b _ e), e]; simp⟩) (fun m hm => ?_) (fun b u e => ?_) I.bare
  · have e : b = D := by simpa using hb
    subst e
    exact ⟨f3, f1, f4, f5⟩
  · obtain ⟨o, es, ep, ho, r⟩ := hm
    exact ⟨o, es, ep, k _ o f1.symm ho, r⟩
  · by_cases z : b = D
    · subst z
      rw [upd_same] at e
      cases e
      exact ⟨hz, its, n, r, ho⟩
    · rw [upd_ne z] at e
      refine (I.hok b u e).stay (fun c v hc q => k c v ?_ q) (fun c q => by rw [upd_ne (nD c _ q)]; exact q) fun c xs q => by rw [upd_ne (nD c _ q)]; exact q
      rcases hc with rfl | hc
      · exact z
      · exact nD c _ hc
theorem cell_of {y : Str} {c : Addr} {i : Nat} {vy : V} (I : Inv X pins σ H s) (hN : X.N[i]? = some y) (hσ : σ[i]? = some (some vy)) (hk : X.env.scope.names.lookup y = some .cell) (hc : X.env.cells.lookup y = some c) : ∃ u, RelV vy u ∧ s.heap.IsCell c (some u) := by
  obtain ⟨m, hn, hl⟩ := I.loc
  obtain ⟨u, r, l⟩ := hl i y vy hN hσ (.inr (.inl hk))
  refine ⟨u, r, ?_⟩
  rcases l with ⟨l, _⟩ | ⟨_, c', e, z⟩
  · have l : X.env.scope.names.lookup y = some .local := l
    rw [hk] at l
    cases l
  · rw [hc] at e
    cases e
    exact z
end
end L2
set_option Elab.async false
set_option linter.all false
set_option maxRecDepth 100000
set_option maxHeartbeats 4000000
namespace L2
open PySem PySem.Spec PyProof.Rows
open PySem.W (kla_fn kla_obj envX tabObj CodeHd KasT kas_sort kas_ask)
def KOk (H : Hp) (zs : List V) (kp : Nat → Int × Int) : Prop := ∀ i, i < zs.length → ∃ q, zs[i]? = some (.ref q) ∧ H q = some (.tup [.int (kp i).1, .int (kp i).2])
abbrev KPT := Hp → List V → (Nat → Nat → Bool) → Prop
def KeyKP (X : Cx) (KP : KPT) : Prop := ∀ (pins : List (Addr × Obj)) (σ : St) (H : Hp) (s : Shared) (zs : List V) (ks : List Value) (ans : Nat → Nat → Bool), Inv X pins σ H s → Vals zs ks → KP H zs ans → ∃ κ : SortKind,
  (2 ≤ ks.length → ∀ Q' : SortKind → Shared → Prop, Q' κ s → wpAny (model X.prog X.w) X.A.in1.in1 (keyKind' ks.toArray) Q' (fun _ _ => False) s) ∧ (2 ≤ ks.length → ∀ i j C, i < ks.length → j < ks.length → C (ans i j) s → kas_ask X.prog X.w X.A.in1.in1 κ ks i j C s)
def KPp : KPT := fun H zs ans => ∃ kp, KOk H zs kp ∧ ans = fun i j => ltK (kp i) (kp j)
structure KeyR (KP : KPT) (te : TE) (vy : V) (c' : Addr) (q : Str) (vs : List V) (H : Hp) (Q : VK) (Pv : Nat → List V → Hp → Prop) : Prop where
  start : Pv 0 [] H
  code : ∀ i zs H', Pv i zs H' → H' c' = some (codeX c' q)
  len : ∀ i zs H', Pv i zs H' → zs.length = i
  turn : ∀ i zs H' v, vs[i]? = some v → Pv i zs H' → te [some v, some vy] H' fun k H'' => Pv (i + 1) (zs ++ [k]) H''
  fin : ∀ zs H', Pv vs.length zs H' → ∃ ans, KP H' zs ans ∧ ∀ D p, H' D = none → Ord vs.length p → (2 ≤ vs.length → p = ansT ans (kas_sort vs.length)) → Q (.ref D) (upd H' D (.lst (p.toList.map fun i => vs.getD i .non)))
section
variable {X : Cx} {pins : List (Addr × Obj)} {σ : St} {H : Hp} {s : Shared}
theorem vals_get? {xs : List V} {us : List Value} (r : Vals xs us) {i : Nat} {u : Value} (h : us[i]? = some u) : ∃ v, xs[i]? = some v ∧ RelV v u := by
  have hi : i < us.length := (List.getElem?_eq_some_iff.mp h).1
  have hx : i < xs.length := by rw [r.length]; exact hi
  refine ⟨xs[i], List.getElem?_eq_getElem hx, ?_⟩
  have z := vals_at r i hx
  have e1 : xs.getD i .non = xs[i] := by simp [hx]
  have e2 : us.getD i Value.none = u := by rw [List.getD_eq_getElem?_getD, h]; rfl
  rw [e1, e2] at z
  exact z
theorem vals_snoc : ∀ {xs : List V} {us : List Value} {v : V} {u : Value}, Vals xs us → RelV v u → Vals (xs ++ [v]) (us ++ [u])
  | _, _, _, _, .nil, r => .cons r .nil
  | _, _, _, _, .cons a t, r => .cons a (vals_snoc t r)
theorem keyKP_pairs (hu : X.A.units + 66 < cLine) : KeyKP X KPp := by
  intro pins σ H s zs ks ans I r h
  obtain ⟨kp, ok, rfl⟩ := h
  have len := r.length
  have tup : ∀ i, i < ks.length → TupI s.heap (ks.getD i Value.none) [(kp i).1, (kp i).2] := fun i hi => by
    obtain ⟨a, ea, ha⟩ := ok i (by omega)
    have z := vals_at r i (by omega)
    rw [List.getD_eq_getElem?_getD, ea] at z
    have z : RelV (.ref a) (ks.getD i Value.none) := z
    have e : ks.getD i Value.none = .ref a := by cases h : ks.getD i Value.none <;> rw [h] at z <;> first | (cases z; rfl) | cases z
    rw [e]
    exact tupI_of I (ns := [(kp i).1, (kp i).2]) ha
  refine ⟨tuples' true, fun h2 Q' q' => kind_ints (by omega) (fun v hv => ?_) q', fun h2 i j C hi hj cc => lt_pairI (tup i hi) (tup j hj) (by show X.A.units + 1 + 1 + 64 < _; omega) cc⟩
  obtain ⟨i, hi, e⟩ := List.mem_iff_getElem.mp hv
  refine ⟨kp i, ?_⟩
  have t := tup i hi
  have e' : ks.getD i Value.none = v := by simp [hi, e]
  rw [e'] at t
  exact t
theorem sortK_run {KP : KPT} {k i0 : Nat} {x y ql : Str} {params : Arguments} {body : Expr} {sc : Scope} {fa c c' l : Addr} {pm ctv : Value} {vy : V} {vs : List V} {te : TE} {Q : VK} {Pv : Nat → List V → Hp → Prop} (I : Inv X pins σ H s) (hKP : KeyKP X KP) (hr : Room (k + 2) X.A) (S : LamScope x y sc)
    (hN : X.N[i0]? = some y) (hσ : σ[i0]? = some (some vy)) (hk : X.env.scope.names.lookup y = some .cell) (hcl : X.env.cells.lookup y = some c) (hfa : FpOk X pins H fa) (hfo : s.heap.get? fa = some (kla_obj "<lambda>" ql params body sc [(y, c)] pm c' ctv))
    (hbind : ∀ u, bindArgs (kla_fn "<lambda>" ql params body sc [(y, c)] pm (.ref c') ctv) ⟨[u], []⟩ = pure [(x, u)]) (hbody : ∀ (A : Around) (s : Shared) (H : Hp), A.units + 64 < cLine → PE (cxLam X.prog X.w X.K X.mg X.base x y ql sc fa (.ref c') c A X.stack s H) body te)
    (hl : H l = some (.lst vs)) (h64 : vs.length < 64) (R : KeyR KP te vy c' ql vs H Q Pv) : wpAny (model X.prog X.w) X.A (call (.builtin "sorted") [.ref l] [(Str.ofString "key", .ref fa)]) (EP X pins σ Q) X.xe s := by
  obtain ⟨its, rv, pl, hz⟩ := I.list (.of hl)
  have len : vs.length = its.length := rv.length
  have un := hr.un
  refine sortedK_at (vs := its) pl.isList (by omega) fun D kS e1 h' eD kk lt hD hkS => ?_
  have sD : s.heap.objs.size ≤ D := by omega
  have sK : s.heap.objs.size ≤ kS := by omega
  have fD := I.fpOk sD (I.hok.fresh sD)
  have fK := I.fpOk sK (I.hok.fresh sK)
  have faD : fa ≠ D := Nat.ne_of_lt (Nat.lt_of_lt_of_le (Heap.lt_size hfo) sD)
  have faK : fa ≠ kS := Nat.ne_of_lt (Nat.lt_of_lt_of_le (Heap.lt_size hfo) sK)
  have DK : D ≠ kS := Nat.ne_of_lt lt
  have nseq : ∀ (b : Array Value) (m : Nat) (v : Option Value), (seqObj "list" b m).data ≠ .cell v := fun b m v z => nomatch (show Data.seq b m = Data.cell v from z)
  have nfun : ∀ v, (kla_obj "<lambda>" ql params body sc [(y, c)] pm c' ctv).data ≠ .cell v := fun v z => nomatch (show Data.func _ = Data.cell v from z)
  -- the three objects that stand beside what is tracked
  have pin3 : ∀ {ks : List Value} {e : Nat} {H' : Hp} {s' : Shared}, Inv X pins σ H' s' → H' fa = none → H' D = none → H' kS = none → s'.heap.get? fa = some (kla_obj "<lambda>" ql params body sc [(y, c)] pm c' ctv) → s'.heap.get? D = some (seqObj "list" #[] e1) → s'.heap.get? kS = some (seqObj "list" ks.toArray e) →
      Inv X (pins ++ [(fa, kla_obj "<lambda>" ql params body sc [(y, c)] pm c' ctv), (D, seqObj "list" #[] e1), (kS, seqObj "list" ks.toArray e)]) σ H' s' := fun {ks e H' s'} J n1 n2 n3 o1 o2 o3 => by
    refine J.pins_of fun p hp => ?_
    rcases List.mem_append.mp hp with hp | hp
    · exact J.pin p (List.mem_append_right _ hp)
    · simp only [List.mem_cons, List.not_mem_nil, or_false] at hp
      rcases hp with rfl | rfl | rfl
      · exact ⟨o1, n1, hfa.2.1, hfa.2.2.1, nfun⟩
      · exact ⟨o2, n2, fD.2.1, fD.2.2.1, nseq _ _⟩
      · exact ⟨o3, n3, fK.2.1, fK.2.2.1, nseq _ _⟩
  have of3 : ∀ {ks : List Value} {e : Nat} {H' : Hp} {s' : Shared}, Inv X (pins ++ [(fa, kla_obj "<lambda>" ql params body sc [(y, c)] pm c' ctv), (D, seqObj "list" #[] e1), (kS, seqObj "list" ks.toArray e)]) σ H' s' →
      Inv X pins σ H' s' ∧ (H' fa = none ∧ H' D = none ∧ H' kS = none) ∧ s'.heap.get? fa = some (kla_obj "<lambda>" ql params body sc [(y, c)] pm c' ctv) ∧ s'.heap.get? D = some (seqObj "list" #[] e1) ∧ s'.heap.get? kS = some (seqObj "list" ks.toArray e) := fun {ks e H' s'} J => by
    have p1 := J.pin (fa, kla_obj "<lambda>" ql params body sc [(y, c)] pm c' ctv) (List.mem_append_right _ (List.mem_append_right _ (by simp)))
    have p2 := J.pin (D, seqObj "list" #[] e1) (List.mem_append_right _ (List.mem_append_right _ (by simp)))
    have p3 := J.pin (kS, seqObj "list" ks.toArray e) (List.mem_append_right _ (List.mem_append_right _ (by simp)))
    exact ⟨J.unpinned, ⟨p1.2.1, p2.2.1, p3.2.1⟩, p1.1, p2.1, p3.1⟩
  refine ⟨fun i ks e s' => ∃ H' zs, Inv X (pins ++ [(fa, kla_obj "<lambda>" ql params body sc [(y, c)] pm c' ctv), (D, seqObj "list" #[] e1), (kS, seqObj "list" ks.toArray e)]) σ H' s' ∧ Vals zs ks ∧ Pv i zs H', ⟨fun i ks e s' hJ => ?_, fun i u ks e s' hu hJ => ?_, fun ks e s' hJ => ?_⟩, H, [], ?_, .nil, R.start⟩
  · obtain ⟨H', zs, J, r, p⟩ := hJ
    exact ⟨(of3 J).2.2.2.2, by rw [← r.length]; exact R.len _ _ _ p⟩
  · obtain ⟨H', zs, J, r, p⟩ := hJ
    obtain ⟨J0, ⟨n1, n2, n3⟩, o1, o2, o3⟩ := of3 J
    obtain ⟨v, hv, ru⟩ := vals_get? rv hu
    obtain ⟨uy, ry, hcell⟩ := cell_of J hN hσ hk hcl
    have hcd : s'.heap.CodeRec (.ref c') ql := (J.hok c' _ (R.code _ _ _ p)).1
    refine wpAny_mono (lam_run J J.env0.in1.in1 (hr.in1.in1) S o1 hcd (hbind u) ru ry hcell (J.freeC _ _ hcl) (hbody _ s' H' (by show X.A.units + 1 + 1 + 64 < cLine; omega)) (R.turn i zs H' v hv p)) (fun u' s'' hs => ?_) fun _ _ z => z
    obtain ⟨kv, H'', J', rk, p'⟩ := hs
    obtain ⟨J1, ⟨m1, m2, m3⟩, q1, q2, q3⟩ := of3 J'
    refine ⟨q3, fun c2 hc2 => ⟨H'', zs ++ [kv], ?_, vals_snoc r rk, p'⟩⟩
    have J2 : Inv X pins σ H'' { s'' with heap := s''.heap.update kS (Obj.mapSeq (·.push u')), toks := s''.toks } := J1.turned (it := kS) (fun b o hb e => by rw [Heap.get?_update_ne _ _ _ _ hb]; exact e) m3 fK.2.1 fK.2.2.2.1 fK.2.2.2.2.1 fK.2.2.2.2.2
    exact pin3 J2 m1 m2 m3 (by show (s''.heap.update kS _).get? fa = _; rw [Heap.get?_update_ne _ _ _ _ faK]; exact q1) (by show (s''.heap.update kS _).get? D = _; rw [Heap.get?_update_ne _ _ _ _ DK]; exact q2) hc2
  · obtain ⟨H', zs, J, r, p⟩ := hJ
    obtain ⟨J0, ⟨n1, n2, n3⟩, o1, o2, o3⟩ := of3 J
    rw [← len] at p
    obtain ⟨ans, ok, q⟩ := R.fin zs H' p
    have zl := R.len _ _ _ p
    have kl : ks.length = its.length := by rw [← r.length, zl, len]
    obtain ⟨κ, k1, k2⟩ := hKP _ _ _ _ _ _ _ J0 r ok
    rw [kl] at k1 k2
    refine ⟨o2, κ, ans, k1, k2, fun pm' or ep _ => ?_⟩
    · have J2 : Inv X pins σ H' { s' with heap := s'.heap.update kS (Obj.mapSeq fun _ => (#[] : Array Value)), toks := s'.toks } := J0.turned (it := kS) (fun b o hb e => by rw [Heap.get?_update_ne _ _ _ _ hb]; exact e) n3 fK.2.1 fK.2.2.2.1 fK.2.2.2.2.1 fK.2.2.2.2.2
      have o4 : (s'.heap.update kS (Obj.mapSeq fun _ => (#[] : Array Value))).get? D = some (seqObj "list" #[] e1) := by rw [Heap.get?_update_ne _ _ _ _ DK]; exact o2
      rw [← len] at or ep
      have lo : pm'.toList.length = vs.length := by rw [or.length_eq, List.length_range]
      obtain ⟨c5, o5⟩ : ∃ c5, ((s'.heap.update kS (Obj.mapSeq fun _ => (#[] : Array Value))).update D (Obj.mapSeq fun _ => List.toArray (pm'.toList.map fun i => its.getD i Value.none))).get? D = some (seqObj "list" (List.toArray (pm'.toList.map fun i => its.getD i Value.none)) c5) := ⟨_, get?_update_seq o4 _⟩
      refine ⟨.ref D, upd H' D (.lst (pm'.toList.map fun i => vs.getD i .non)), J2.track (t' := s'.toks) ⟨n2, fD.2⟩ (fun b o hb e => by rw [Heap.get?_update_ne _ _ _ _ hb]; exact e) ?_ (vals_map _ fun i hi => vals_at rv i ?_) o5, rfl, q D pm' n2 or ep⟩
      · rw [List.length_map, lo]
        exact Nat.le_trans (Nat.le_of_lt h64) (by decide)
      · exact List.mem_range.mp (or.mem_iff.mp hi)
  · have J0 : Inv X pins σ H { s with heap := h', toks := s.toks } := I.kept kk
    exact pin3 J0 hfa.1 (I.hok.fresh sD) (I.hok.fresh sK) (kk _ _ hfo) hD hkS
end
end L2
set_option Elab.async false
set_option linter.all false
set_option maxRecDepth 100000
set_option maxHeartbeats 4000000
namespace L2
open PySem PySem.Spec PyProof.Rows
open PySem.W (kla_fn kla_obj envX tabObj CodeHd KasT kas_sort kas_ask)
section
variable {X : Cx} {p pos lpos kpos : Pos} {e body : Expr} {params : Arguments} {sc : Scope} {x y : Str} {c c0 P : Addr} {i0 k : Nat} {te tl : TE}
def tSortK (KP : KPT) (P : Addr) (lpos : Pos) (ql : Str) (i0 : Nat) (te tl : TE) : TE := fun σ H Q => tCons tl tNil σ H fun xs H1 => ∃ l vs vy, xs = [.ref l] ∧ H1 l = some (.lst vs) ∧ vs.length < 64 ∧ σ[i0]? = some (some vy) ∧ LamTab H1 P lpos ql ∧
  ∀ c' H2, SameT P H1 H2 → LamTab H2 P lpos ql → H2 c' = some (codeX c' ql) → ∃ Pv, KeyR KP te vy c' ql vs H2 Q Pv
theorem pe_sortK {KP : KPT} (hKP : KeyKP X KP) (hr : Room (k + 2) X.A) (hg : Gl X "sorted") (hm : X.mg "sorted" = none) (ha : PA X [e] (tCons tl tNil)) (S : LamScope x y sc) (hN : X.N[i0]? = some y) (hk : X.env.scope.names.lookup y = some .cell) (hcl : X.env.cells.lookup y = some c)
    (hclos : closureFor sc X.env = pure [(y, c)]) (hdef : defaultsOf params X.env = ([], [])) (hcode : X.env.code = .ref c0) (C : CodeHd X.base c0 P) (hB : X.base.BuiltinsAt X.mg P)
    (hbind : ∀ (pm cd ctv u : Value), bindArgs (kla_fn "<lambda>" (X.env.qual ++ "<lambda>") params body sc [(y, c)] pm cd ctv) ⟨[u], []⟩ = pure [(x, u)])
    (hbody : ∀ (fa c' : Addr) (A : Around) (s : Shared) (H : Hp), A.units + 64 < cLine → PE (cxLam X.prog X.w X.K X.mg X.base x y (X.env.qual ++ "<lambda>") sc fa (.ref c') c A X.stack s H) body te)
    (he : backTo pos (starEach [e] X.env) = (false, eval e X.env) :: backTo pos (starEach [] X.env) := by rfl) (hpl : (backTo pos (starEach [e] X.env)).any (·.1) = false := by rfl) :
    PE X (.Call (.Name "sorted" p) [e] [⟨some "key", .Lambda params body sc lpos, kpos⟩] pos) (tSortK KP P lpos (X.env.qual ++ "<lambda>") i0 te tl) := by
  intro pins s σ H Q I h
  refine wpAny_Call_Name_kw (ld_blt I hg hm bt_sorted ?_)
  refine callWith_kw (thn (ha pos pins s σ H _ I h) fun us s1 ⟨vs', H1, I1, r1, q1⟩ => ?_) he hpl rfl rfl
  obtain ⟨l, vs, vy, ev, hl, h64, hσ, ht, q⟩ := q1
  subst ev
  obtain ⟨u, rfl, ru⟩ := vals1 r1
  cases ru
  refine kws_cons (lam_make (C := C) I1 hcode hB hclos hdef ht fun fa c' ctv H2 s2 I2 st lt hfo hc' ffa => kws_nil ?_)
  obtain ⟨Pv, R⟩ := q c' H2 st lt hc'
  have nl : l ≠ P := fun z => by
    obtain ⟨ps, hP, _⟩ := ht
    rw [z, hP] at hl
    cases hl
  exact sortK_run I2 hKP hr S hN hσ hk hcl ffa hfo (fun u => hbind _ _ _ u) (hbody fa c') (st l _ nl hl) h64 R
end
end L2
set_option Elab.async false
set_option linter.all false
set_option maxRecDepth 100000
set_option maxHeartbeats 4000000
namespace L2
open PySem PySem.Spec PyProof.Rows
section
variable {κ : Type} [DecidableEq κ]
def valV (kvs : List (κ × V)) (k : κ) : Option V := (kvs.find? fun kv => decide (kv.1 = k)).map (·.2)
def putK (kvs : List (κ × V)) (k : κ) (v : V) : List (κ × V) :=
  if (kvs.any fun kv => decide (kv.1 = k)) = true then kvs.map (fun kv => if kv.1 = k then (kv.1, v) else kv) else kvs ++ [(k, v)]
def dropK (kvs : List (κ × V)) (k : κ) : List (κ × V) := kvs.filter fun kv => decide (kv.1 ≠ k)
theorem valV_pos {p : κ × V} {r : List (κ × V)} {k : κ} (e : p.1 = k) : valV (p :: r) k = some p.2 := by simp [valV, List.find?_cons, e]
theorem valV_neg {p : κ × V} {r : List (κ × V)} {k : κ} (e : ¬ p.1 = k) : valV (p :: r) k = valV r k := by simp [valV, List.find?_cons, e]
theorem valV_any (k : κ) : ∀ kvs : List (κ × V), (kvs.any fun kv => decide (kv.1 = k)) = (valV kvs k).isSome
  | [] => rfl
  | p :: r => by
    rw [List.any_cons]
    by_cases e : p.1 = k
    · simp only [valV_pos e, decide_eq_true e, Bool.true_or, Option.isSome_some]
    · rw [valV_neg e, decide_eq_false e, Bool.false_or]; exact valV_any k r
theorem valV_map (k j : κ) (y : V) : ∀ kvs : List (κ × V), valV (kvs.map fun kv => if kv.1 = k then (kv.1, y) else kv) j = (valV kvs j).map fun x => if j = k then y else x
  | [] => rfl
  | p :: r => by
    have ih := valV_map k j y r
    rw [List.map_cons]
    by_cases h : p.1 = k
    · rw [if_pos h]
      by_cases e : p.1 = j
      · rw [valV_pos (p := (p.1, y)) e, valV_pos e, Option.map_some, if_pos (e.symm.trans h)]
      · rw [valV_neg (p := (p.1, y)) e, valV_neg e, ih]
    · rw [if_neg h]
      by_cases e : p.1 = j
      · rw [valV_pos (p := p) e, valV_pos e, Option.map_some, if_neg (fun z => h (e.trans z))]
      · rw [valV_neg (p := p) e, valV_neg e, ih]
theorem valV_snoc (k j : κ) (y : V) : ∀ kvs : List (κ × V), valV kvs k = none → valV (kvs ++ [(k, y)]) j = if j = k then some y else valV kvs j
  | [], _ => by
    by_cases e : k = j
    · rw [if_pos e.symm]; exact valV_pos (p := (k, y)) e
    · rw [if_neg (fun z => e z.symm)]; exact valV_neg (p := (k, y)) e
  | p :: r, hn => by
    rw [List.cons_append]
    have hk : ¬ p.1 = k := fun z => by rw [valV_pos z] at hn; cases hn
    rw [valV_neg hk] at hn
    have ih := valV_snoc k j y r hn
    by_cases e : p.1 = j
    · rw [valV_pos e, valV_pos e, if_neg (fun z => hk (e.trans z))]
    · rw [valV_neg e, valV_neg e, ih]
theorem valV_put (kvs : List (κ × V)) (k j : κ) (y : V) : valV (putK kvs k y) j = if j = k then some y else valV kvs j := by
  unfold putK
  by_cases a : (kvs.any fun kv => decide (kv.1 = k)) = true
  · rw [if_pos a, valV_map]
    rw [valV_any] at a
    by_cases e : j = k
    · obtain ⟨x, hx⟩ := Option.isSome_iff_exists.mp a
      rw [if_pos e, e, hx, Option.map_some, if_pos rfl]
    · rw [if_neg e]
      cases valV kvs j with
      | none => rfl
      | some x => rw [Option.map_some, if_neg e]
  · rw [if_neg a]
    refine valV_snoc k j y kvs ?_
    rw [valV_any] at a
    cases q : valV kvs k with
    | none => rfl
    | some x => rw [q] at a; exact (a rfl).elim
theorem length_putK (kvs : List (κ × V)) (k : κ) (v : V) : (putK kvs k v).length ≤ kvs.length + 1 := by
  unfold putK
  split
  · rw [List.length_map]; omega
  · rw [List.length_append, List.length_cons, List.length_nil]; omega
theorem putK_new {kvs : List (κ × V)} {k : κ} (v : V) (h : valV kvs k = none) : putK kvs k v = kvs ++ [(k, v)] := by
  unfold putK
  rw [valV_any, h]
  exact if_neg (by decide)
theorem RelO.isSome_eq {o : Option V} {u : Option Value} (r : RelO o u) : o.isSome = u.isSome := by
  cases o with
  | none => cases u with
    | none => rfl
    | some _ => exact (show False from r).elim
  | some _ => cases u with
    | none => exact (show False from r).elim
    | some _ => rfl
theorem RelO.getD {o : Option V} {u : Option Value} {d : V} {d' : Value} (r : RelO o u) (rd : RelV d d') : RelV (o.getD d) (u.getD d') := by
  cases o with
  | none => cases u with
    | none => exact rd
    | some _ => exact (show False from r).elim
  | some _ => cases u with
    | none => exact (show False from r).elim
    | some _ => exact r
theorem KV.val {kvs : List (κ × V)} {vs : List (κ × Value)} (r : KV kvs vs) (k : κ) : RelO (valV kvs k) (valueAt vs k) := by
  unfold KV at r
  induction r with
  | nil => exact True.intro
  | @cons p q ps qs h t ih =>
    obtain ⟨h1, h2⟩ := h
    by_cases e : p.1 = k
    · have e' : q.1 = k := h1.symm.trans e
      have b : valueAt (q :: qs) k = some q.2 := by simp [valueAt, List.find?_cons, e']
      rw [valV_pos e, b]; exact h2
    · have e' : ¬ q.1 = k := fun z => e (h1.trans z)
      have b : valueAt (q :: qs) k = valueAt qs k := by simp [valueAt, List.find?_cons, e']
      rw [valV_neg e, b]; exact ih
theorem KV.any {kvs : List (κ × V)} {vs : List (κ × Value)} (r : KV kvs vs) (k : κ) : (kvs.any fun kv => decide (kv.1 = k)) = vs.any fun kv => decide (kv.1 = k) := by
  unfold KV at r
  induction r with
  | nil => rfl
  | cons h t ih => rw [List.any_cons, List.any_cons, ih, h.1]
theorem KV.repl {kvs : List (κ × V)} {vs : List (κ × Value)} (r : KV kvs vs) (k : κ) {y : V} {u : Value} (ry : RelV y u) :
    KV (kvs.map fun kv => if kv.1 = k then (kv.1, y) else kv) (vs.map fun kv => if kv.1 = k then (kv.1, u) else kv) := by
  unfold KV at r ⊢
  induction r with
  | nil => exact .nil
  | @cons p q ps qs h t ih =>
    rw [List.map_cons, List.map_cons]
    refine .cons ?_ ih
    obtain ⟨h1, h2⟩ := h
    by_cases e : p.1 = k
    · rw [if_pos e, if_pos (h1.symm.trans e)]; exact ⟨h1, ry⟩
    · rw [if_neg e, if_neg (fun z => e (h1.trans z))]; exact ⟨h1, h2⟩
theorem KV.put {kvs : List (κ × V)} {vs : List (κ × Value)} (r : KV kvs vs) (k : κ) {y : V} {u : Value} (ry : RelV y u) : KV (putK kvs k y) (stored vs k u) := by
  unfold putK stored
  rw [r.any k]
  by_cases e : (vs.any fun kv => decide (kv.1 = k)) = true
  · rw [if_pos e, if_pos e]; exact r.repl k ry
  · rw [if_neg e, if_neg e]; exact Paired.snoc r ⟨rfl, ry⟩
theorem KV.drop {kvs : List (κ × V)} {vs : List (κ × Value)} (r : KV kvs vs) (k : κ) : KV (dropK kvs k) (without vs k) := by
  unfold KV at r ⊢
  unfold dropK without
  induction r with
  | nil => exact .nil
  | @cons p q ps qs h t ih =>
    obtain ⟨h1, h2⟩ := h
    rw [List.filter_cons, List.filter_cons]
    by_cases e : p.1 = k
    · have a : ¬ decide (p.1 ≠ k) = true := by simp [e]
      have b : ¬ decide (q.1 ≠ k) = true := by simp [h1.symm.trans e]
      rw [if_neg a, if_neg b]; exact ih
    · have e' : ¬ q.1 = k := fun z => e (h1.trans z)
      have a : decide (p.1 ≠ k) = true := by simp [e]
      have b : decide (q.1 ≠ k) = true := by simp [e']
      rw [if_pos a, if_pos b]; exact .cons ⟨h1, h2⟩ ih
theorem KV.keys {kvs : List (κ × V)} {vs : List (κ × Value)} (r : KV kvs vs) : kvs.map (·.1) = vs.map (·.1) := by
  unfold KV at r
  induction r with
  | nil => rfl
  | cons h t ih => rw [List.map_cons, List.map_cons, ih, h.1]
theorem KV.length {kvs : List (κ × V)} {vs : List (κ × Value)} (r : KV kvs vs) : kvs.length = vs.length := Paired.length r
end
theorem kV_is {P : Program} {w : World} {k : Key} {u : Value} (r : RelV (kV k) u) : (mixKind P w).is k u = true := by
  cases k with
  | inl i => obtain ⟨t, e⟩ := (show ∃ t, u = Value.int i t from r); subst e; exact mixKind_int P w i t
  | inr x => obtain ⟨t, e⟩ := (show ∃ t, u = Value.str x t from r); subst e; exact mixKind_str P w x t
theorem items_are {P : Program} {w : World} : ∀ {ks : List Key} {us : List Value}, Vals (ks.map kV) us → ItemsAre (mixKind P w) ks us
  | [], _, r => by rw [List.map_nil] at r; cases r; exact .nil
  | k :: ks, _, r => by
    rw [List.map_cons] at r
    cases r with
    | cons h t => exact .cons (kV_is h) (items_are t)
abbrev KT (H : Hp) : List (List Key × V) → List (List Key × Addr × Value) → Prop := Paired fun p q => p.1 = q.1 ∧ H q.2.1 = some (.tup (p.1.map kV)) ∧ RelV p.2 q.2.2
theorem KT.val {H : Hp} {kvs : List (List Key × V)} {xs : List (List Key × Addr × Value)} (r : KT H kvs xs) (k : List Key) : RelO (valV kvs k) ((atKey xs k).map (·.2)) := by
  induction r with
  | nil => exact True.intro
  | @cons p q ps qs h t ih =>
    obtain ⟨h1, _, h2⟩ := h
    by_cases e : p.1 = k
    · have e' : q.1 = k := h1.symm.trans e
      have b : atKey (q :: qs) k = some q.2 := by simp [atKey, List.find?_cons, e']
      rw [valV_pos e, b]; exact h2
    · have e' : ¬ q.1 = k := fun z => e (h1.trans z)
      have b : atKey (q :: qs) k = atKey qs k := by simp [atKey, List.find?_cons, e']
      rw [valV_neg e, b]; exact ih
theorem KT.repl {H : Hp} {kvs : List (List Key × V)} {xs : List (List Key × Addr × Value)} (r : KT H kvs xs) (k : List Key) {y : V} {u : Value} (ry : RelV y u) :
    KT H (kvs.map fun kv => if kv.1 = k then (kv.1, y) else kv) (xs.map (putAt k u)) := by
  induction r with
  | nil => exact .nil
  | @cons p q ps qs h t ih =>
    rw [List.map_cons, List.map_cons]
    refine .cons ?_ ih
    obtain ⟨h1, h2, h3⟩ := h
    unfold putAt
    by_cases e : p.1 = k
    · rw [if_pos e, if_pos (h1.symm.trans e)]; exact ⟨h1, h2, ry⟩
    · rw [if_neg e, if_neg (fun z => e (h1.trans z))]; exact ⟨h1, h2, h3⟩
theorem KT.put {H : Hp} {kvs : List (List Key × V)} {xs : List (List Key × Addr × Value)} (r : KT H kvs xs) (k : List Key) {b : Addr} {y : V} {u : Value} (hb : H b = some (.tup (k.map kV))) (ry : RelV y u) :
    KT H (putK kvs k y) (storedH xs k b u) := by
  have e : (kvs.any fun kv => decide (kv.1 = k)) = (atKey xs k).isSome := by
    rw [valV_any, (r.val k).isSome_eq, Option.isSome_map]
  unfold putK storedH
  rw [e]
  by_cases q : (atKey xs k).isSome = true
  · rw [if_pos q, if_pos q]; exact r.repl k ry
  · rw [if_neg q, if_neg q]; exact Paired.snoc r ⟨rfl, hb, ry⟩
theorem KT.keeps {H H' : Hp} {kvs : List (List Key × V)} {xs : List (List Key × Addr × Value)} (r : KT H kvs xs) (ht : ∀ b ys, H b = some (.tup ys) → H' b = some (.tup ys)) : KT H' kvs xs :=
  Paired.mapP r fun _ _ z => ⟨z.1, ht _ _ z.2.1, z.2.2⟩
section
variable {P : Program} {w : World} {H : Hp} {h : Heap} {a : Addr}
theorem rd_of {u : HO} (ok : HOk P w H h) (e : Rd H a u) : ObjOk P w H h a u := e.ok ok
theorem dk_rd {kvs : List (Key × V)} (ok : HOk P w H h) (e : Rd H a (.dK kvs)) : kvs.length ≤ sizeLine ∧ (a == sysModules) = false ∧ ∃ vs, KV kvs vs ∧ h.DictOf (mixKind P w) a vs :=
  show ObjOk P w H h a (.dK kvs) from rd_of ok e
theorem dk_of {kvs : List (Key × V)} (ok : HOk P w H h) (e : H a = some (.dK kvs)) : kvs.length ≤ sizeLine ∧ (a == sysModules) = false ∧ ∃ vs, KV kvs vs ∧ h.DictOf (mixKind P w) a vs := dk_rd ok (.inl e)
theorem key_of {ks : List Key} (ok : HOk P w H h) (e : H a = some (.tup (ks.map kV))) : (tupleKind (mixKind P w)).is h ks a := by
  obtain ⟨_, its, r, o, h1, h2, n, h3⟩ := (show ObjOk P w H h a (.tup (ks.map kV)) from ok a _ e)
  exact ⟨o, its.toArray, n, h1, h2, h3, by simpa using items_are r⟩
theorem dt_rd {kvs : List (List Key × V)} (ok : HOk P w H h) (e : Rd H a (.dT kvs)) : kvs.length ≤ sizeLine ∧ (a == sysModules) = false ∧
    ∃ xs, KT H kvs xs ∧ h.DictOfH (tupleKind (mixKind P w)) a xs := by
  obtain ⟨z, y, xs, r, o, es, ep, h1, h2, h3, h4, h5⟩ := (show ObjOk P w H h a (.dT kvs) from rd_of ok e)
  refine ⟨z, y, xs, r, o, es, ep, h1, h2, h3, h4, fun x hx => ?_, h5⟩
  have all : ∀ {l : List (List Key × V)} {m : List (List Key × Addr × Value)}, KT H l m → ∀ x ∈ m, (tupleKind (mixKind P w)).is h x.1 x.2.1 := by
    intro l m q
    induction q with
    | nil => intro x hx; exact nomatch hx
    | @cons p q ps qs hq t ih =>
      intro x hx
      rcases List.mem_cons.mp hx with e | hx
      · subst e
        exact key_of ok (by rw [← hq.1]; exact hq.2.1)
      · exact ih x hx
  exact all r x hx
theorem dt_of {kvs : List (List Key × V)} (ok : HOk P w H h) (e : H a = some (.dT kvs)) : kvs.length ≤ sizeLine ∧ (a == sysModules) = false ∧
    ∃ xs, KT H kvs xs ∧ h.DictOfH (tupleKind (mixKind P w)) a xs := dt_rd ok (.inl e)
end
def DGet (H : Hp) (a : Addr) (y : V) (r : Option V) : Prop :=
  (∃ kvs k, Rd H a (.dK kvs) ∧ y = kV k ∧ r = valV kvs k) ∨ ∃ kvs k b, Rd H a (.dT kvs) ∧ y = .ref b ∧ H b = some (.tup (k.map kV)) ∧ r = valV kvs k
def DPut (H : Hp) (a : Addr) (y v : V) (H' : Hp) : Prop :=
  (∃ kvs k, H a = some (.dK kvs) ∧ y = kV k ∧ kvs.length < sizeLine ∧ H' = upd H a (.dK (putK kvs k v))) ∨
  ∃ kvs k b, H a = some (.dT kvs) ∧ y = .ref b ∧ H b = some (.tup (k.map kV)) ∧ kvs.length < sizeLine ∧ H' = upd H a (.dT (putK kvs k v))
theorem DGet.k {H : Hp} {a : Addr} {kvs : List (Key × V)} {k : Key} (e : H a = some (.dK kvs)) : DGet H a (kV k) (valV kvs k) := .inl ⟨kvs, k, .inl e, rfl, rfl⟩
theorem DGet.t {H : Hp} {a b : Addr} {kvs : List (List Key × V)} {k : List Key} (e : H a = some (.dT kvs)) (eb : H b = some (.tup (k.map kV))) : DGet H a (.ref b) (valV kvs k) := .inr ⟨kvs, k, b, .inl e, rfl, eb, rfl⟩
theorem DPut.k {H : Hp} {a : Addr} {kvs : List (Key × V)} {k : Key} {v : V} (e : H a = some (.dK kvs)) (hl : kvs.length < sizeLine) : DPut H a (kV k) v (upd H a (.dK (putK kvs k v))) := .inl ⟨kvs, k, e, rfl, hl, rfl⟩
theorem DPut.t {H : Hp} {a b : Addr} {kvs : List (List Key × V)} {k : List Key} {v : V} (e : H a = some (.dT kvs)) (eb : H b = some (.tup (k.map kV))) (hl : kvs.length < sizeLine) :
    DPut H a (.ref b) v (upd H a (.dT (putK kvs k v))) := .inr ⟨kvs, k, b, e, rfl, eb, hl, rfl⟩
section
variable {X : Cx} {pins : List (Addr × Obj)} {σ : St} {H : Hp} {s : Shared} {a : Addr} {y v : V} {u r : Value} {o : Option V} {A : Around} {E : Value → Shared → Prop}
theorem Inv.big (I : Inv X pins σ H s) : sysModules < s.heap.objs.size := by
  have h : mainGlobals < s.heap.objs.size := (I.mod.glob.keeps I.bk).lt
  exact Nat.lt_trans (by decide) h
theorem d_getItem {Q : Value → Shared → Prop} (hu : A.units + 1 < cLine) (I : Inv X pins σ H s) (g : DGet H a y (some v)) (ry : RelV y u) (h : ∀ w' s', Inv X pins σ H s' → RelV v w' → Q w' s') :
    wpAny (model X.prog X.w) A (getItem (.ref a) u) Q E s := by
  rcases g with ⟨kvs, k, e, ey, l⟩ | ⟨kvs, k, b, e, ey, eb, l⟩
  · subst ey
    obtain ⟨z, hd, vs, rel, dd⟩ := dk_rd I.hok e
    obtain ⟨w', hw, rw'⟩ := RelO.some_of (v := v) (o := valueAt vs k) (by rw [l]; exact rel.val k)
    exact wpAny_getItem_of (kV_is ry) dd.mapOf hw (h w' _ (I.tok _) rw')
  · subst ey
    cases (show u = Value.ref b from ry)
    obtain ⟨z, hd, xs, rel, dd⟩ := dt_rd I.hok e
    obtain ⟨w', hw, rw'⟩ := RelO.some_of (v := v) (o := (atKey xs k).map (·.2)) (by rw [l]; exact rel.val k)
    obtain ⟨p, hp, hp2⟩ := Option.map_eq_some_iff.mp hw
    refine wpAny_getItem_heap (tupleKind_room_in1 hu) (key_of I.hok eb) dd hp ?_
    rw [hp2]
    exact h w' _ (I.tok _) rw'
theorem d_notIn {Q : Value → Shared → Prop} (hu : A.units + 1 < cLine) (I : Inv X pins σ H s) (g : DGet H a y o) (ry : RelV y u) (h : ∀ s', Inv X pins σ H s' → Q (.bool (!o.isSome)) s') :
    wpAny (model X.prog X.w) A (compareOp .NotIn u (.ref a)) Q E s := by
  rcases g with ⟨kvs, k, e, ey, l⟩ | ⟨kvs, k, b, e, ey, eb, l⟩
  · subst ey
    obtain ⟨z, hd, vs, rel, dd⟩ := dk_rd I.hok e
    refine wpAny_notIn_of (kV_is ry) hd dd.mapOf ?_
    rw [← (rel.val k).isSome_eq, ← l]
    exact h _ (I.tok _)
  · subst ey
    cases (show u = Value.ref b from ry)
    obtain ⟨z, hd, xs, rel, dd⟩ := dt_rd I.hok e
    refine wpAny_notIn_heap (tupleKind_room_in1 hu) (key_of I.hok eb) hd dd ?_
    have q := (rel.val k).isSome_eq
    rw [Option.isSome_map] at q
    rw [← q, ← l]
    exact h _ (I.tok _)
theorem d_write {h' : Heap} {t' : Nat} {ob : HO} (I : Inv X pins σ H s) (mu : Mut (H a)) (hs : Heap.SameBut a s.heap h') (he : ∃ q, h'.get? a = some q) (new : ObjOk X.prog X.w (upd H a ob) h' a ob) :
    Inv X pins σ (upd H a ob) { s with heap := h', toks := t' } :=
  I.write (x := a) (e := a) mu (.inl rfl) (fun b q hb z => (hs.2 b hb).trans z) he new
theorem dk_new {P : Program} {w : World} {H' : Hp} {h' : Heap} {kvs : List (Key × V)} {vs : List (Key × Value)} (z : kvs.length ≤ sizeLine) (hd : (a == sysModules) = false) (rel : KV kvs vs) (dd : h'.DictOf (mixKind P w) a vs) :
    ObjOk P w H' h' a (.dK kvs) := ⟨z, hd, vs, rel, dd⟩
theorem d_setItem {H' : Hp} {Q : Unit → Shared → Prop} (hu : A.units + 1 < cLine) (I : Inv X pins σ H s) (g : DPut H a y v H') (ry : RelV y u) (rv : RelV v r) (h : ∀ s', Inv X pins σ H' s' → Q () s') :
    wpAny (model X.prog X.w) A (setItem (.ref a) u r) Q E s := by
  rcases g with ⟨kvs, k, e, ey, l, eH⟩ | ⟨kvs, k, b, e, ey, eb, l, eH⟩
  · subst ey eH
    obtain ⟨z, hd, vs, rel, dd⟩ := dk_of I.hok e
    have hz : vs.length ≤ sizeLine := by rw [← rel.length]; exact z
    have hl : (putK kvs k v).length ≤ sizeLine := by have := length_putK kvs k v; omega
    refine wpAny_setItem_pairs (hsz := hz) (kV_is ry) dd fun h' dd' hs => h _ ?_
    have he : ∃ q, h'.get? a = some q := let ⟨q, _, _, hq, _⟩ := dd'; ⟨q, hq⟩
    exact d_write I (by rw [e]; exact True.intro) hs he (dk_new hl hd (rel.put k rv) dd')
  · subst ey eH
    cases (show u = Value.ref b from ry)
    obtain ⟨z, hd, xs, rel, dd⟩ := dt_of I.hok e
    have hz : xs.length ≤ sizeLine := by rw [← Paired.length rel]; exact z
    have hl : (putK kvs k v).length ≤ sizeLine := by have := length_putK kvs k v; omega
    refine wpAny_setItem_heap (hsz := hz) (tupleKind_room_in1 hu) (key_of I.hok eb) dd fun h' dd' hs => h _ ?_
    obtain ⟨q, es, ep, hq, h2, h3, h4, _, h5⟩ := dd'
    refine d_write I (by rw [e]; exact True.intro) hs ⟨q, hq⟩ ⟨hl, hd, _, (rel.put k eb rv).keeps fun c ys ec => ?_, q, es, ep, hq, h2, h3, h4, h5⟩
    rw [upd_ne (ne_of ec e (fun z => nomatch z))]
    exact ec
end
section
variable {X : Cx} {pins : List (Addr × Obj)} {σ : St} {H : Hp} {s : Shared} {a : Addr} {kvs : List (Key × V)} {k : Key} {u : Value} {A : Around} {E : Value → Shared → Prop}
end
def NoSl (i : Expr) : Prop := ∀ ov iv, subscripted i false ov iv = operate [ov, iv] (getItem ov iv)
theorem subD_of {prog : Program} {w : World} {A : Around} {E : Value → Shared → Prop} {s : Shared} {env : Env} {value slice : Expr} {pos : Pos} {T id : String} {Q : Value → Shared → Prop}
    (hl : typeLookup (.type T) "__getitem__" = pure (some (.builtin id))) (hs : NoSl slice)
    (h : wpAny (model prog w) A (eval value env) (fun o s₁ => wpAny (model prog w) A (eval slice env) (fun i s₂ => s₂.TypeIs o T ∧ wpAny (model prog w) A (getItem o i) Q E s₂) E s₁) E s) :
    wpAny (model prog w) A (eval (.Subscript value slice pos) env) Q E s := by
  refine Subscript_ (wpAny_mono h (fun o s₁ h₁ => wpAny_mono h₁ (fun i s₂ h₂ => ?_) fun _ _ x => x) fun _ _ x => x)
  obtain ⟨hT, h₂⟩ := h₂
  unfold subscriptTail
  refine wpAny_bind ?_
  rw [getitemInPython_of_ne hT.not_modules]
  refine wpAny_bind (wpAny_specialOf hT hl ?_)
  have fin : wpAny (model prog w) A (subscripted slice false o i) (fun r s₃ => wpAny (model prog w) A (letTemporaryGo value o r >>= fun _ => pure r) Q E s₃) E s₂ := by
    rw [hs o i]
    exact wpAny_operating (wpAny_mono h₂ (fun r s₃ h₃ => wpAny_bind (wpAny_letTemporaryGo (wpAny_pure h₃))) fun _ _ x => x)
  first
    | exact wpAny_pure (wpAny_bind fin)
    | exact wpAny_bind (wpAny_pure (wpAny_bind fin))
    | exact wpAny_bind fin
theorem dict_typeIs {X : Cx} {pins : List (Addr × Obj)} {σ : St} {H : Hp} {s : Shared} {a : Addr} {y : V} {o : Option V} (I : Inv X pins σ H s) (g : DGet H a y o) : s.TypeIs (.ref a) "dict" := by
  rcases g with ⟨kvs, k, e, _, _⟩ | ⟨kvs, k, b, e, _, _, _⟩
  · obtain ⟨_, _, vs, _, dd⟩ := dk_rd I.hok e
    exact dd.typeIs
  · obtain ⟨_, _, xs, _, dd⟩ := dt_rd I.hok e
    exact dd.typeIs
def tDGet (td ty : TE) : TE := fun σ H Q => td σ H fun x H1 => ty σ H1 fun y H2 => ∃ a v, x = .ref a ∧ DGet H2 a y (some v) ∧ Q v H2
def tDNotIn (ty td : TE) : TE := fun σ H Q => ty σ H fun y H1 => td σ H1 fun x H2 => ∃ a o, x = .ref a ∧ DGet H2 a y o ∧ Q (.bl (!o.isSome)) H2
def sDPut (td ty tv : TE) : TS := fun D σ H => tv σ H fun v H1 => td σ H1 fun x H2 => ty σ H2 fun y H3 => ∃ a H4, x = .ref a ∧ DPut H3 a y v H4 ∧ D.nx σ H4
section
variable {X : Cx} {o i e value : Expr} {pos pos' tpos : Pos} {td ty tv : TE}
theorem pe_dget (hu : X.A.units + 1 < cLine) (ho : PE X o td) (hi : PE X i ty) (hs : NoSl i) : PE X (.Subscript o i pos) (tDGet td ty) := by
  intro pins s σ H Q I h
  refine subD_of PySem.F.slot_dict_getitem.lookup hs (thn (ho pins s σ H _ I h) fun u s1 ⟨x, H1, I1, rx, q1⟩ => thn (hi pins s1 σ H1 _ I1 q1) fun iv s2 ⟨y, H2, I2, ry, a, v, ex, g, q2⟩ => ?_)
  subst ex
  obtain rfl : u = Value.ref a := rx
  exact ⟨dict_typeIs I2 g, d_getItem hu I2 g ry fun w' s3 I3 rw' => ⟨v, H2, I3, rw', q2⟩⟩
theorem pc_dnotin (hu : X.A.units + 1 < cLine) (hi : PE X i ty) (ho : PE X o td) : PC X .NotIn i o (tDNotIn ty td) := by
  intro pins s σ H Q I h
  refine thn (hi pins s σ H _ I h) fun iv s1 ⟨y, H1, I1, ry, q1⟩ => thn (ho pins s1 σ H1 _ I1 q1) fun u s2 ⟨x, H2, I2, rx, a, ov, ex, g, q2⟩ => ?_
  subst ex
  obtain rfl : u = Value.ref a := rx
  exact d_notIn hu I2 g ry fun s3 I3 => ⟨.bl (!ov.isSome), H2, I3, rfl, q2⟩
theorem ps_dput (hu : X.A.units + 1 < cLine) (ho : PE X o td) (hi : PE X i ty) (hv : PE X value tv) (hs : swapsWith value (some (.Subscript o i pos')) pos.line X.env = pure false) :
    PS X (.Assign [.Subscript o i pos'] value pos) (sDPut td ty tv) := by
  intro pins s σ H D I h
  refine wpAny_Assign_Subscript (thn (hv pins s σ H _ I h) fun r s1 ⟨v, H1, I1, rv, q1⟩ => thn (ho pins s1 σ H1 _ I1 q1) fun u s2 ⟨x, H2, I2, rx, q2⟩ => thn (hi pins s2 σ H2 _ I2 q2) fun iv s3 ⟨y, H3, I3, ry, a, H4, ex, g, q3⟩ => ?_) hs
  subst ex
  obtain rfl : u = Value.ref a := rx
  exact d_setItem hu I3 g ry rv fun s4 I4 => ⟨σ, H4, I4, q3⟩
end
theorem dt_empty {P : Program} {w : World} {H : Hp} (h : Heap) (hb : sysModules < h.objs.size) : ObjOk P w H (h.push { cls := .type "dict", data := .dict #[] }) h.objs.size (.dT []) :=
  ⟨Nat.zero_le _, beq_eq_false_iff_ne.mpr (Ne.symm (Nat.ne_of_lt hb)), [], .nil, _, #[], 0, Heap.get?_push_size _ rfl, ⟨rfl, rfl, rfl⟩, rfl, rfl, List.nodup_nil⟩
def tDNewT : TE := fun _ H Q => ∀ p, H p = none → Q (.ref p) (upd H p (.dT []))
section
variable {X : Cx} {pos : Pos}
theorem pe_dnewT : PE X (.Dict [] [] pos) tDNewT := fun pins s σ H Q I h =>
  wpAny_Dict_empty ⟨.ref s.heap.objs.size, _, I.laid (a := s.heap.objs.size) (o := .dT []) (t' := s.toks) (fun _ _ q => Heap.get?_push_of_some _ q) (Nat.le_refl _) (dt_empty s.heap I.big), rfl, h _ (I.hok.fresh (Nat.le_refl _))⟩
end
structure M2 (X : Cx) (o : Expr) (m : Str) (apos : Pos) (e f : Expr) (cpos : Pos) : Prop where
  base : attributeBase o m X.env (eval o X.env) = eval o X.env
  few : ((backTo cpos (starEach [e, f] X.env)).all (fun x => !x.1) && (backToKw cpos (keywordEach [] X.env)).all (fun x => x.1.isSome)
    && decide (([e, f] : List Expr).length + ([] : List Keyword).length + (if ([] : List Keyword).isEmpty then 0 else 1) < 30)) = true
  line : (apos.endLine == cpos.line) = true
  trees : backTo cpos (starEach [e, f] X.env) = [(false, eval e X.env), (false, eval f X.env)]
def IsD (H : Hp) (a : Addr) : Prop := (∃ kvs, Rd H a (.dK kvs)) ∨ ∃ kvs, Rd H a (.dT kvs)
theorem isD_at {X : Cx} {pins : List (Addr × Obj)} {σ : St} {H : Hp} {s : Shared} {a : Addr} (I : Inv X pins σ H s) (d : IsD H a) :
    s.TypeIs (.ref a) "dict" ∧ (∀ b, Value.ref a = .ref b → ∃ ob, s.heap.get? b = some ob ∧ ob.dict = none) ∧ (a == sysModules) = false := by
  rcases d with ⟨kvs, e⟩ | ⟨kvs, e⟩
  · obtain ⟨_, hd, vs, _, dd⟩ := dk_rd I.hok e
    refine ⟨dd.typeIs, fun b q => ?_, hd⟩
    cases q
    obtain ⟨ob, _, _, h1, h2, _⟩ := dd
    exact ⟨ob, h1, h2.2.1⟩
  · obtain ⟨_, hd, xs, _, dd⟩ := dt_rd I.hok e
    refine ⟨dd.typeIs, fun b q => ?_, hd⟩
    cases q
    obtain ⟨ob, _, _, h1, h2, _⟩ := dd
    exact ⟨ob, h1, h2.2.1⟩
section
variable {X : Cx} {pins : List (Addr × Obj)} {σ : St} {H : Hp} {s : Shared} {a : Addr} {y d : V} {u r : Value} {o : Option V} {A : Around} {E : Value → Shared → Prop}
theorem d_get2 {Q : Value → Shared → Prop} (hu : A.units + 1 < cLine) (I : Inv X pins σ H s) (g : DGet H a y o) (ry : RelV y u) (rd : RelV d r) (h : ∀ w' s', Inv X pins σ H s' → RelV (o.getD d) w' → Q w' s') :
    wpAny (model X.prog X.w) A (call (.builtin "dict.get") [.ref a, u, r]) Q E s := by
  rcases g with ⟨kvs, k, e, ey, l⟩ | ⟨kvs, k, b, e, ey, eb, l⟩
  · subst ey
    obtain ⟨z, hd, vs, rel, dd⟩ := dk_rd I.hok e
    refine call_meetsIn PySem.F.slot_dict_get dd.typeIs PySem.F.entry_dict_get (PySem.F.args_dict_get_3 _ _ _) (meets_dict_get_default (mixKind X.prog X.w) a (kV_is ry) hd r) ⟨_, dd.mapOf, h _ _ (I.tok _) ?_⟩
    rw [l]
    exact (rel.val k).getD rd
  · subst ey
    cases (show u = Value.ref b from ry)
    obtain ⟨z, hd, xs, rel, dd⟩ := dt_rd I.hok e
    refine call_meetsIn PySem.F.slot_dict_get dd.typeIs PySem.F.entry_dict_get (PySem.F.args_dict_get_3 _ _ _) (meetsH_dict_get_default (tupleKind (mixKind X.prog X.w)) a b hd r) ⟨tupleKind_room_in1 hu, k, xs, key_of I.hok eb, dd, h _ _ (I.tok _) ?_⟩
    rw [l]
    exact (rel.val k).getD rd
end
def tDGet2 (td ty tx : TE) : TE := fun σ H Q => td σ H fun x H1 => ∃ a, x = .ref a ∧ IsD H1 a ∧ ty σ H1 fun y H2 => tx σ H2 fun z H3 => ∃ o, DGet H3 a y o ∧ Q (o.getD z) H3
section
variable {X : Cx} {o e f : Expr} {apos cpos : Pos} {td ty tx : TE}
theorem pe_dget2 (hu : X.A.units + 1 < cLine) (ho : PE X o td) (he : PE X e ty) (hf : PE X f tx) (m : M2 X o "get" apos e f cpos) : PE X (.Call (.Attribute o "get" apos) [e, f] [] cpos) (tDGet2 td ty tx) := by
  intro pins s σ H Q I h
  refine wpAny_Call_method m.base m.few m.line PySem.F.plainAttrs_dict PySem.F.slot_dict_get PySem.F.type_dict_get (thn (ho pins s σ H _ I h) fun u s1 ⟨x, H1, I1, rx, a, ex, d, q1⟩ => ?_)
  subst ex
  obtain rfl : u = Value.ref a := rx
  obtain ⟨t1, t2, _⟩ := isD_at I1 d
  refine ⟨t1, t2, ?_⟩
  rw [m.trees]
  refine Calls.callWith_builtin rfl (Calls.evalArgs_plain (Calls.spliced_cons (thn (he pins s1 σ H1 _ I1 q1) fun iv s2 ⟨y, H2, I2, ry, q2⟩ =>
    Calls.spliced_cons (thn (hf pins s2 σ H2 _ I2 q2) fun fv s3 ⟨z, H3, I3, rz, ov, g, q3⟩ => Calls.spliced_nil ?_))))
  exact d_get2 hu I3 g ry rz fun w' s4 I4 rw' => ⟨_, H3, I4, rw', q3⟩
end
section
variable {X : Cx} {pins : List (Addr × Obj)} {σ : St} {H : Hp} {s : Shared} {a : Addr} {kvs : List (Key × V)} {A : Around} {E : Value → Shared → Prop}
end
section
variable {X : Cx} {pins : List (Addr × Obj)} {σ : St} {H : Hp} {s : Shared} {a : Addr} {y : V} {u : Value} {A : Around} {E : Value → Shared → Prop}
end
end L2
namespace L2
open PySem PySem.Spec PyProof.Rows
section
variable {κ : Type} [DecidableEq κ]
end
end L2
set_option Elab.async false
set_option linter.all false
set_option maxRecDepth 100000
set_option maxHeartbeats 4000000
namespace L2
open PySem PySem.Spec PyProof.Rows
section
variable {X : Cx} {x : Str} {p pos : Pos} {e : Expr} {es : List Expr} {kws : List Keyword} {ks : List Str} {t tk : TA} {id : String} {r : List V → List V → Hp → VK → Prop}
def CallKR (X : Cx) (f : Value) (ks : List Str) (r : List V → List V → Hp → VK → Prop) : Prop :=
  ∀ (pins : List (Addr × Obj)) (s : Shared) (σ : St) (H : Hp) (xs zs : List V) (us ws : List Value) (Q : VK), Inv X pins σ H s → Vals xs us → Vals zs ws → r xs zs H Q → wpAny (model X.prog X.w) X.A (call f us (ks.zip ws)) (EP X pins σ Q) X.xe s
def tCBK (r : List V → List V → Hp → VK → Prop) (t tk : TA) : TE := fun σ H Q => t σ H fun xs H1 => tk σ H1 fun zs H2 => r xs zs H2 Q
theorem pe_callBK (hc : CallKR X (.builtin id) ks r) (hg : Gl X x) (hm : X.mg x = none) (hv : bootBuiltins x = some (.builtin id)) (ha : PA X (e :: es) t) (hkw : PK X kws tk) (hks : (backToKw pos (keywordEach kws X.env)).filterMap (·.1) = ks := by rfl)
    (hn : x ≠ "__name__" := by decide) (hdb : (x == ("__debug__" : Str)) = false := by decide) (he : backTo pos (starEach (e :: es) X.env) = (false, eval e X.env) :: backTo pos (starEach es X.env) := by rfl) (hpl : (backTo pos (starEach (e :: es) X.env)).any (·.1) = false := by rfl)
    (hall : (backToKw pos (keywordEach kws X.env)).all (·.1.isSome) = true := by rfl) (hno : (backToKw pos (keywordEach kws X.env)).any (·.1.isNone) = false := by rfl) : PE X (.Call (.Name x p) (e :: es) kws pos) (tCBK r t tk) := by
  intro pins s σ H Q I h
  refine wpAny_Call_Name_kw (ld_blt I hg hm hv ?_ hn hdb)
  refine callWith_kw (thn (ha pos pins s σ H _ I h) fun us s1 ⟨vs, H1, I1, r1, q1⟩ => thn (hkw pos pins s1 σ H1 _ I1 q1) fun ws s2 ⟨zs, H2, I2, r2, q2⟩ => ?_) he hpl hall hno
  rw [hks]
  exact hc pins s2 σ H2 vs zs us ws Q I2 r1 r2 q2
end
section
variable {prog : Program} {w : World} {A : Around} {R : Result → Shared → Prop} {I : Addr} {fp wr : List Addr} {n : Nat} {P : Nat → Value → Prop} {St : Nat → Heap → Prop}
theorem maxD_on (W : Walks prog w A.in1 I fp wr n P St) (bt : Nat → Nat → Bool) (hc : CmpOf prog w A.in1 .Gt P bt) (S : Addr) (nS : S ∉ fp) (kw : List (Str × Value)) : ∀ (k j : Nat) (s : Shared) (vb : Value) (c : Nat), n - (j + 1) = k → j + 1 ≤ n → St (j + 1) s.heap → P (argBest bt j) vb →
    s.heap.get? S = some { cls := .type "list", dict := none, data := .seq #[vb, vb] c, slots := #[] } → (∀ v h' tk, P (argBest bt (n - 1)) v → (∀ b o, b ∉ wr → b ≠ S → s.heap.get? b = some o → h'.get? b = some o) → R (.ok (.ret v)) { s with heap := h', toks := tk }) →
    codeAny (model prog w) A (.builtin "max.loop" ⟨[.ref I, .none, .ref S], kw⟩) R s := by
  have nw : S ∉ wr := fun z => nS (W.sub _ z)
  have nm : (toString "max" ++ toString ".loop" : String) = "max.loop" := by decide
  intro k
  induction k with
  | zero =>
    intro j s vb c hk hj st hb oS q
    have ej : j + 1 = n := by omega
    refine codeAny_builtin F.entry_max_loop ?_
    rw [Around.under_plainId F.plain_max_loop _]
    refine wpAny_bind (m := seqItems? (.ref S)) (wpAny_seqItems oS rfl (wpAny_bind (wpAny_tryCatch (W.done s _ _ (ej ▸ st) fun h' tk kp => ?_))))
    refine wpAny_bind (wpAny_updateSeq (kp S _ nw oS) rfl (wpAny_bind (wpAny_letGo (wpAny_pure ?_))))
    exact q vb _ tk (by rw [← ej]; exact hb) fun b o b1 b2 e => (Heap.get?_update_other _ _ (Ne.symm b2)).trans (kp b o b1 e)
  | succ k ih =>
    intro j s vb c hk hj st hb oS q
    refine codeAny_builtin F.entry_max_loop ?_
    rw [Around.under_plainId F.plain_max_loop _]
    refine wpAny_bind (m := seqItems? (.ref S)) (wpAny_seqItems oS rfl (wpAny_bind (wpAny_tryCatch (W.item (j + 1) s _ _ (by omega) st fun v h' tk hP st' kp => ?_))))
    have oS' := kp S _ nw oS
    refine wpAny_bind (wpAny_pure ?_)
    refine wpAny_bind (m := tryCatch (holding [v, v] (richCompare CmpOp.Gt v vb >>= _)) _) (wpAny_tryCatch (wpAny_holding (wpAny_bind (hc (j + 1) (argBest bt j) v vb _ _ _ hP hb (wpAny_bind (wpAny_holding (wpAny_truthy_bool (wpAny_bind (wpAny_letGo (wpAny_pure ?_))))))))))
    cases bb : bt (j + 1) (argBest bt j) with
    | true =>
      simp only [if_true]
      refine wpAny_bind (wpAny_updateSeq oS' rfl (wpAny_bind (wpAny_letGo ?_)))
      rw [nm]
      refine wpAny_pure ⟨plainId_quiet F.plain_max_loop _, ih (j + 1) _ v _ (by omega) (by omega) (W.frame _ _ _ st' fun b hf o e => (Heap.get?_update_other _ _ (fun z : S = b => nS (by rw [z]; exact hf))).trans e) (by simp only [argBest, bb, if_true]; exact hP) (Heap.get?_update_self _ oS' rfl) fun v' h'' tk'' hP' kp' => ?_⟩
      exact q v' h'' tk'' hP' fun b o b1 b2 e => kp' b o b1 b2 ((Heap.get?_update_other _ _ (Ne.symm b2)).trans (kp b o b1 e))
    | false =>
      simp only [Bool.false_eq_true, if_false]
      refine wpAny_bind (wpAny_letGo ?_)
      rw [nm]
      exact wpAny_pure ⟨plainId_quiet F.plain_max_loop _, ih (j + 1) _ vb c (by omega) (by omega) st' (by simp only [argBest, bb, Bool.false_eq_true, if_false]; exact hb) oS' fun v' h'' tk'' hP' kp' => q v' h'' tk'' hP' fun b o b1 b2 e => kp' b o b1 b2 (kp b o b1 e)⟩
theorem maxD_first (W : Walks prog w A.in1 I fp wr n P St) (bt : Nat → Nat → Bool) (hc : CmpOf prog w A.in1 .Gt P bt) (S : Addr) (nS : S ∉ fp) {k : Str} {d : Value} {s : Shared} {c : Nat} (st : St 0 s.heap)
    (oS : s.heap.get? S = some { cls := .type "list", dict := none, data := .seq #[] c, slots := #[] })
    (q : ∀ v h' tk, ((0 < n ∧ P (argBest bt (n - 1)) v) ∨ (n = 0 ∧ v = d)) → (∀ b o, b ∉ wr → b ≠ S → s.heap.get? b = some o → h'.get? b = some o) → R (.ok (.ret v)) { s with heap := h', toks := tk }) :
    codeAny (model prog w) A (.builtin "max.loop" ⟨[.ref I, .none, .ref S], [(k, d)]⟩) R s := by
  have nw : S ∉ wr := fun z => nS (W.sub _ z)
  have nm : (toString "max" ++ toString ".loop" : String) = "max.loop" := by decide
  refine codeAny_builtin F.entry_max_loop ?_
  rw [Around.under_plainId F.plain_max_loop _]
  by_cases h0 : n = 0
  · subst h0
    refine wpAny_bind (m := seqItems? (.ref S)) (wpAny_seqItems oS rfl (wpAny_bind (wpAny_tryCatch (W.done s _ _ st fun h' tk kp => ?_))))
    exact wpAny_bind (wpAny_rule (wpAny_pure (q d h' tk (.inr ⟨rfl, rfl⟩) fun b o b1 _ e => kp b o b1 e)))
  · refine wpAny_bind (m := seqItems? (.ref S)) (wpAny_seqItems oS rfl (wpAny_bind (wpAny_tryCatch (W.item 0 s _ _ (by omega) st fun v h' tk hP st' kp => ?_))))
    refine wpAny_bind (wpAny_pure ?_)
    refine wpAny_bind (wpAny_updateSeq (kp S _ nw oS) rfl ?_)
    rw [nm]
    refine wpAny_pure ⟨plainId_quiet F.plain_max_loop _, maxD_on W bt hc S nS _ _ 0 _ v _ rfl (by omega) (W.frame _ _ _ st' fun b hf o e => (Heap.get?_update_other _ _ (fun z : S = b => nS (by rw [z]; exact hf))).trans e) hP (Heap.get?_update_self _ (kp S _ nw oS) rfl) fun v' h'' tk'' hP' kp' => ?_⟩
    exact q v' h'' tk'' (.inl ⟨by omega, hP'⟩) fun b o b1 b2 e => kp' b o b1 b2 ((Heap.get?_update_other _ _ (Ne.symm b2)).trans (kp b o b1 e))
end
end L2
set_option Elab.async false
set_option linter.all false
set_option maxRecDepth 100000
set_option maxHeartbeats 4000000
namespace L2
open PySem PySem.Spec PyProof.Rows
theorem args_maxD (a v : Value) : argsOk "max" ⟨[a], [(Str.ofString "default", v)]⟩ := by unfold argsOk; kernel_rfl
theorem best_all (val : Nat → Int) : ∀ k, argBest (fun i j => decide (val i > val j)) k ≤ k ∧ ∀ i, i ≤ k → val i ≤ val (argBest (fun i j => decide (val i > val j)) k)
  | 0 => ⟨Nat.le_refl _, fun i hi => by rw [Nat.le_zero.mp hi]; exact Int.le_refl _⟩
  | k + 1 => by
    obtain ⟨h1, h2⟩ := best_all val k
    unfold argBest
    by_cases c : val (k + 1) > val (argBest (fun i j => decide (val i > val j)) k)
    · rw [if_pos (decide_eq_true c)]
      refine ⟨Nat.le_refl _, fun i hi => ?_⟩
      by_cases e : i = k + 1
      · rw [e]; exact Int.le_refl _
      · have := h2 i (by omega)
        omega
    · rw [if_neg (by rw [decide_eq_false c]; decide)]
      refine ⟨by omega, fun i hi => ?_⟩
      by_cases e : i = k + 1
      · rw [e]; omega
      · exact h2 i (by omega)
def rMaxD : List V → List V → Hp → VK → Prop := fun xs zs H Q => ∃ p ns d, xs = [.ref p] ∧ zs = [.int d] ∧ H p = some (.lst (ns.map V.int)) ∧ ∀ g, (∀ n, n ∈ ns → n ≤ g) → (g ∈ ns ∨ (ns = [] ∧ g = d)) → Q (.int g) H
section
variable {X : Cx}
theorem call_maxD (hc : X.calm = true) : CallKR X (.builtin "max") [Str.ofString "default"] rMaxD := by
  intro pins s σ H xs zs us ws Q I r rz h
  obtain ⟨p, ns, d, rfl, rfl, hp, q⟩ := h
  obtain ⟨u, rfl, ru⟩ := vals1 r
  obtain ⟨u', rfl, t, rfl⟩ := vals1 rz
  cases ru
  obtain ⟨its, rv, pl, hz⟩ := I.list (.of hp)
  have ia : IntsAre its ns := by
    have := intsAre_of rv
    simpa using this
  have len := ia.length
  have ne : p ≠ s.heap.objs.size := Nat.ne_of_lt pl.lt
  have nm : (toString "max" ++ toString ".loop" : String) = "max.loop" := by decide
  refine kmk_tree PySem.F.kind_max PySem.F.plain_max PySem.F.entry_max (args_maxD _ _) ?_
  refine wpAny_bind (m := Builtin.Builtins.bindParams "max" ["key", "default"] 0 ⟨[], [(Str.ofString "default", .int d t)]⟩) (wpAny_of_eq (show Builtin.Builtins.bindParams "max" ["key", "default"] 0 ⟨[], [(Str.ofString "default", .int d t)]⟩ = pure [none, some (.int d t)] from rfl) (wpAny_bind (wpAny_pure (wpAny_bind (wpAny_pyIter_list pl.isList (wpAny_bind (wpAny_newList ?_ (Nat.zero_le _))))))))
  rw [nm]
  have W := Walks.list (prog := X.prog) (w := X.w) (A := X.A.in1) (show X.A.in1.handled = none from I.ok.hd hc) s.heap.objs.size p ne its.toArray
  have it : ∀ i v, its.toArray[i]? = some v → ∃ t, v = Value.int (ns.getD i 0) t := fun i v hv => IntsAre.int_at ia i v (by simpa using hv)
  have sz : (s.heap.push { cls := .type "list_iterator", data := .fields #[.ref p, .int 0 0] }).objs.size = s.heap.objs.size + 1 := by rw [Heap.size_push]
  refine wpAny_pure ⟨plainId_quiet PySem.F.plain_max_loop _, maxD_first W (fun i j => decide (ns.getD i 0 > ns.getD j 0)) (CmpOf.ints_gt (fun i => ns.getD i 0) it) _ (fun z => ?_) (st := W.frame 0 _ _ ⟨⟨_, Heap.get?_push_size _ rfl, rfl, rfl⟩, pl.isList.push _⟩ fun b _ o e => Heap.get?_push_of_some _ e) (Heap.get?_push_size _ rfl) fun v h' tk hv kp => ?_⟩
  · rw [sz] at z
    have l2 : p < s.heap.objs.size := pl.lt
    rcases List.mem_cons.mp z with z | z
    · exact absurd z (Nat.ne_of_gt (Nat.lt_succ_self _))
    · exact absurd (List.mem_singleton.mp z) (Nat.ne_of_gt (Nat.lt_succ_of_lt l2))
  · have keep : ∀ b o, s.heap.get? b = some o → h'.get? b = some o := fun b o e => by
      have lt := Heap.lt_size e
      refine kp b o (fun z => ?_) (fun z => ?_) (Heap.get?_push_of_some _ (Heap.get?_push_of_some _ e))
      · exact absurd (show b = s.heap.objs.size by simpa using z) (Nat.ne_of_lt lt)
      · rw [sz] at z
        exact absurd z (Nat.ne_of_lt (Nat.lt_succ_of_lt lt))
    obtain ⟨b1, b2⟩ := best_all (fun i => ns.getD i 0) (its.toArray.size - 1)
    have J : Inv X pins σ H { s with heap := h', toks := tk } := I.kept keep
    rcases hv with ⟨h0, hv⟩ | ⟨h0, rfl⟩
    · obtain ⟨t', rfl⟩ := it _ _ hv
      have h0 : 0 < its.length := by simpa using h0
      have zi : its.toArray.size = its.length := rfl
      rw [zi] at b1 b2 ⊢
      refine ⟨.int _, H, J, ⟨t', rfl⟩, q _ (fun n hn => ?_) (.inl ?_)⟩
      · obtain ⟨i, hi, e⟩ := List.mem_iff_getElem.mp hn
        have := b2 i (by omega)
        have e' : ns.getD i 0 = n := by simp [hi, e]
        rw [e'] at this
        exact this
      · have hb : argBest (fun i j => decide (ns.getD i 0 > ns.getD j 0)) (its.length - 1) < ns.length := by omega
        rw [List.getD_eq_getElem?_getD, List.getElem?_eq_getElem hb]
        exact List.getElem_mem _
    · have h0 : its.length = 0 := by simpa using h0
      have n0 : ns = [] := List.eq_nil_of_length_eq_zero (by omega)
      exact ⟨.int d, H, J, ⟨t, rfl⟩, q d (fun n hn => by rw [n0] at hn; cases hn) (.inr ⟨n0, rfl⟩)⟩
end
end L2
set_option Elab.async false
set_option linter.all false
set_option maxRecDepth 100000
set_option maxHeartbeats 4000000
namespace L2
open PySem PySem.Spec PyProof.Rows
section
variable {prog : Program} {w : World} {A : Around} {E : Value → Shared → Prop} {s : Shared}
theorem sd_heap {d a : Addr} {xs : List (List Key × Addr × Value)} {k : List Key} {v : Value} {Q : Value → Shared → Prop} (hu : (tupleKind (mixKind prog w)).room A) (hkey : (tupleKind (mixKind prog w)).is s.heap k a) (hm : s.heap.DictOfH (tupleKind (mixKind prog w)) d xs) (hz : xs.length ≤ sizeLine)
    (q1 : ∀ p, atKey xs k = some p → Q p.2 { s with toks := s.toks + (tupleKind (mixKind prog w)).draws k })
    (q2 : atKey xs k = none → ∀ h', h'.DictOfH (tupleKind (mixKind prog w)) d (storedH xs k a v) → Heap.SameBut d s.heap h' → Q v { s with heap := h', toks := s.toks + (tupleKind (mixKind prog w)).draws k }) :
    wpAny (model prog w) A (dictSetDefault d (.ref a) v) Q E s := by
  obtain ⟨o, es, ep, ho, hc, hd, he, his, hn⟩ := hm
  unfold dictSetDefault
  refine wpAny_holding (wpAny_bind ((tupleKind (mixKind prog w)).pyHash hu hkey (wpAny_bind (wpAny_dictFind_heap (s := { s with toks := s.toks + (tupleKind (mixKind prog w)).draws k }) hu hkey ho hd he his hn (fun hno => ?_) fun j p hj => ?_))))
  · have an := atKey_none_of_get hno
    have hnot : k ∉ xs.map (·.1) := not_mem_keys_of_get hno
    refine wpAny_bind (wpAny_rule (wpAny_bind (wpAny_updateDictKeys (hz := by have e := size_of_entries he; omega) (s := { s with toks := s.toks + (tupleKind (mixKind prog w)).draws k }) ho hd (wpAny_pure (q2 an _ ⟨_, _, ep + 1, Heap.get?_update_self _ ho (Obj.isFreed_of_dict (Obj.data_mapDictKeys hd _)), hc.mapDictKeys _, Obj.data_mapDictKeys hd _, ?_, ?_, ?_⟩ (Heap.SameBut.update ..))))))
    · rw [storedH_new an]
      simp [he, entryOfKey]
    · rw [storedH_new an]
      intro x hx
      rcases List.mem_append.mp hx with y | y
      · exact (tupleKind (mixKind prog w)).keeps (his x y) ho hd (Heap.SameBut.update ..)
      · rw [List.mem_singleton.mp y]
        exact (tupleKind (mixKind prog w)).keeps hkey ho hd (Heap.SameBut.update ..)
    · rw [storedH_new an, List.map_append, List.nodup_append]
      refine ⟨hn, by simp, fun x hx y hy e => hnot ?_⟩
      have y' : y = k := by simpa using hy
      rw [← y', ← e]
      exact hx
  · refine wpAny_bind (wpAny_dictEntries (s := { s with toks := s.toks + (tupleKind (mixKind prog w)).draws k }) ho hd ?_)
    rw [entry_at he j, hj]
    exact wpAny_bind (wpAny_rule (wpAny_pure (q1 p (atKey_of_get hn hj))))
theorem sd_meets {d a : Addr} (hd : (d == sysModules) = false) (v : Value) : MeetsIn prog w (Builtin.«dict.setdefault» ⟨[.ref d, .ref a, v], []⟩) (fun A R s => (tupleKind (mixKind prog w)).room A.in1 ∧ ∃ k xs, (tupleKind (mixKind prog w)).is s.heap k a ∧ s.heap.DictOfH (tupleKind (mixKind prog w)) d xs ∧ xs.length ≤ sizeLine ∧
    (∀ p, atKey xs k = some p → R (.ok (.ret p.2)) { s with toks := s.toks + (tupleKind (mixKind prog w)).draws k }) ∧
    (atKey xs k = none → ∀ h', h'.DictOfH (tupleKind (mixKind prog w)) d (storedH xs k a v) → Heap.SameBut d s.heap h' → R (.ok (.ret v)) { s with heap := h', toks := s.toks + (tupleKind (mixKind prog w)).draws k })) :=
  .of_wp fun A R s ⟨hu, k, xs, hkey, hm, hz, h1, h2⟩ => by
    unfold Builtin.«dict.setdefault» Builtin.Dict.keyAndDefault
    refine wpAny_bind (wpAny_bind (wpAny_notOrdered_dict hm.typeIs ?_))
    show wpAny _ _ (pure (d, Value.ref a, some v)) _ _ s
    refine wpAny_pure ?_
    show wpAny _ _ (if (d == sysModules) = true then _ else (dictSetDefault d (Value.ref a) v >>= _)) _ _ s
    rw [if_neg (by rw [hd]; decide)]
    exact wpAny_bind (sd_heap hu hkey hm hz (fun p hp => wpAny_pure ⟨p.2, rfl, h1 p hp⟩) fun hn h' hm' hs' => wpAny_pure ⟨v, rfl, h2 hn h' hm' hs'⟩)
end
section
variable {X : Cx} {pins : List (Addr × Obj)} {σ : St} {H : Hp} {s : Shared}
def rSD (a : Addr) (y z : V) (H : Hp) (Q : VK) : Prop := ∃ kvs k b, H a = some (.dT kvs) ∧ y = .ref b ∧ H b = some (.tup (k.map kV)) ∧ kvs.length < sizeLine ∧ (∀ v, valV kvs k = some v → Q v H) ∧ (valV kvs k = none → Q z (upd H a (.dT (putK kvs k z))))
theorem d_setDefault {A : Around} {E : Value → Shared → Prop} {a : Addr} {y z : V} {u r : Value} {Q : VK} (hu : A.units + 1 < cLine) (I : Inv X pins σ H s) (g : rSD a y z H Q) (ry : RelV y u) (rz : RelV z r) :
    wpAny (model X.prog X.w) A (call (.builtin "dict.setdefault") [.ref a, u, r]) (EP X pins σ Q) E s := by
  obtain ⟨kvs, k, b, e, rfl, eb, l, q1, q2⟩ := g
  cases (show u = Value.ref b from ry)
  obtain ⟨zz, hd, xs, rel, dd⟩ := dt_of I.hok e
  have hz : xs.length ≤ sizeLine := by rw [← Paired.length rel]; exact zz
  have hl : (putK kvs k z).length ≤ sizeLine := by have := length_putK kvs k z; omega
  refine call_meetsIn PySem.F.slot_dict_setdefault dd.typeIs PySem.F.entry_dict_setdefault (PySem.F.args_dict_setdefault_3 _ _ _) (sd_meets hd r) ⟨tupleKind_room_in1 hu, k, xs, key_of I.hok eb, dd, hz, fun p hp => ?_, fun hn h' dd' hs => ?_⟩
  · have rv := rel.val k
    rw [hp] at rv
    cases hv : valV kvs k with
    | none => rw [hv] at rv; exact rv.elim
    | some v =>
      rw [hv] at rv
      exact ⟨v, H, I.tok _, rv, q1 v hv⟩
  · have hv : valV kvs k = none := by
      have rv := rel.val k
      rw [hn] at rv
      cases hv : valV kvs k with
      | none => rfl
      | some v => rw [hv] at rv; exact rv.elim
    obtain ⟨o, es, ep, ho, h2, h3, h4, _, h5⟩ := dd'
    refine ⟨z, upd H a (.dT (putK kvs k z)), d_write I (by rw [e]; exact True.intro) hs ⟨o, ho⟩ ⟨hl, hd, _, (rel.put k eb rz).keeps fun c ys ec => ?_, o, es, ep, ho, h2, h3, h4, h5⟩, rz, q2 hv⟩
    rw [upd_ne (ne_of ec e (fun z => nomatch z))]
    exact ec
variable {o e f : Expr} {td ty tx : TE} {apos cpos : Pos}
def tDSd (td ty tx : TE) : TE := fun σ H Q => td σ H fun x H1 => ∃ a, x = .ref a ∧ IsD H1 a ∧ ty σ H1 fun y H2 => tx σ H2 fun z H3 => rSD a y z H3 Q
theorem pe_dsd (hu : X.A.units + 1 < cLine) (ho : PE X o td) (he : PE X e ty) (hf : PE X f tx) (m : M2 X o "setdefault" apos e f cpos) : PE X (.Call (.Attribute o "setdefault" apos) [e, f] [] cpos) (tDSd td ty tx) := by
  intro pins s σ H Q I h
  refine wpAny_Call_method m.base m.few m.line PySem.F.plainAttrs_dict PySem.F.slot_dict_setdefault PySem.F.type_dict_setdefault (thn (ho pins s σ H _ I h) fun u s1 ⟨x, H1, I1, rx, a, ex, d, q1⟩ => ?_)
  subst ex
  obtain rfl : u = Value.ref a := rx
  obtain ⟨t1, t2, _⟩ := isD_at I1 d
  refine ⟨t1, t2, ?_⟩
  rw [m.trees]
  exact Calls.callWith_builtin rfl (Calls.evalArgs_plain (Calls.spliced_cons (thn (he pins s1 σ H1 _ I1 q1) fun iv s2 ⟨y, H2, I2, ry, q2⟩ => Calls.spliced_cons (thn (hf pins s2 σ H2 _ I2 q2) fun fv s3 ⟨z, H3, I3, rz, g⟩ => Calls.spliced_nil (d_setDefault hu I3 g ry rz)))))
end
end L2
set_option Elab.async false
set_option linter.all false
set_option maxRecDepth 100000
set_option maxHeartbeats 4000000
namespace L2
open PySem PySem.Spec PyProof.Rows
section
variable {prog : Program} {w : World} {A : Around} {E : Value → Shared → Prop} {s : Shared}
theorem kiter_new {d : Addr} {od : Obj} {es : Array DictEntry} {ep : Nat} {Q : Value → Shared → Prop} (hd : (d == sysModules) = false) (ho : s.heap.get? d = some od) (hc : od.cls = .type "dict") (hdat : od.data = .dict es ep)
    (q : Q (.ref s.heap.objs.size) { s with heap := s.heap.push { cls := .type "dict_keyiterator", data := .fields #[.ref d, .int 0 0, .int es.size 0, .int ep 0] } }) : wpAny (model prog w) A (pyIter (.ref d)) Q E s := by
  have ty : s.TypeIs (.ref d) "dict" := ⟨od, ho, hc⟩
  refine wpAny_pyIter_slot ty PySem.F.slot_dict_iter (wpAny_call_entry PySem.F.slot_dict_iter ty PySem.F.entry_dict_iter ?_ (PySem.F.args_dict_iter_1 _))
  unfold Builtin.«dict.__iter__»
  refine wpAny_bind ?_
  unfold Builtin.Dict.dictSlotNone
  refine wpAny_bind (wpAny_notOrdered_dict ty (wpAny_pure ?_))
  refine wpAny_bind (m := Builtin.Dict.showsAll d) ?_
  unfold Builtin.Dict.showsAll
  rw [if_neg (by rw [hd]; decide)]
  refine wpAny_pure (wpAny_bind (wpAny_dictEntries ho hdat (wpAny_bind (wpAny_dictEpoch ho hdat (wpAny_bind (wpAny_newObj_type (wpAny_pure ⟨_, rfl, "dict_keyiterator", _, ⟨_, Heap.get?_push_size _ rfl, rfl⟩, PySem.F.slot_dict_keyiterator_next.lookup, ?_⟩)))))))
  simpa [rawInt] using q
theorem kiter_item {it d : Addr} {i ep : Nat} {od : Obj} {es : Array DictEntry} {Q : Option Value → Shared → Prop} (hit : s.heap.IsKeyIter it d i es.size ep) (ho : s.heap.get? d = some od) (hdat : od.data = .dict es ep) (hi : i < es.size)
    (q : ∀ h', h'.IsKeyIter it d (i + 1) es.size ep → Heap.SameBut it s.heap h' → Q (some es[i].key) { s with heap := h' }) : wpAny (model prog w) A (pyNext (.ref it)) Q E s := by
  obtain ⟨o, hoi, hci, hdi⟩ := id hit
  have own : Builtin.Dict_items.ownsTuple "dict_keyiterator" = false := by decide
  unfold pyNext
  refine wpAny_bind (wpAny_attempt (wpAny_callSpecial?_slot (name := Str.ofString "__next__") hit.typeIs PySem.F.slot_dict_keyiterator_next (wpAny_call_entry PySem.F.slot_dict_keyiterator_next hit.typeIs PySem.F.entry_dict_keyiterator_next (wpAny_bind (wpAny_pure (wpAny_bind (wpAny_bind ?_)))) (PySem.F.args_dict_keyiterator_next_1 _))))
  first | refine wpAny_bind (wpAny_typeNameOfWhole_keyiter hit.typeIs (wpAny_pure (wpAny_bind (wpAny_fieldsOf hoi hdi ?_)))) | refine wpAny_bind (wpAny_typeNameOf_keyiter hit.typeIs (wpAny_pure (wpAny_bind (wpAny_fieldsOf hoi hdi ?_))))
  simp only [own, Bool.false_eq_true, if_false]
  show wpAny _ _ (if (Value.ref d == Value.none) = true then _ else _) _ _ s
  have nv : ¬ ((Value.ref d == Value.none) = true) := Bool.false_ne_true
  rw [if_neg nv]
  refine wpAny_bind (wpAny_pure (wpAny_bind (wpAny_dictEntries ho hdat ?_)))
  rw [if_neg (by simp)]
  refine wpAny_bind (wpAny_pure (wpAny_bind (wpAny_dictEpoch ho hdat ?_)))
  rw [if_neg (by simp)]
  refine wpAny_pure ?_
  simp only [show ¬ ((i : Int) < 0) from by omega, if_false, Int.toNat_natCast, Array.getElem?_eq_getElem hi]
  refine wpAny_bind ?_
  first | refine wpAny_bind (wpAny_typeNameOfWhole_keyiter hit.typeIs (wpAny_pure (wpAny_bind (wpAny_isOneOf_keyiter hit.typeIs ?_)))) | refine wpAny_bind (wpAny_typeNameOf_keyiter hit.typeIs (wpAny_pure (wpAny_bind (wpAny_isOneOf_keyiter hit.typeIs ?_))))
  refine wpAny_bind (m := setField (.ref it) 1 (rawInt ((i : Int) + 1))) (wpAny_setField hoi hdi (by simp) ?_)
  have st : (s.heap.update it (Obj.mapFields (·.setIfInBounds 1 (rawInt ((i : Int) + 1))))).IsKeyIter it d (i + 1) es.size ep := ⟨_, Heap.get?_update_self _ hoi (Obj.isFreed_of_fields (Obj.data_mapFields hdi _)), (Obj.cls_mapFields ..).trans hci, by rw [Obj.data_mapFields hdi]; simp [rawInt]⟩
  refine wpAny_bind (wpAny_holding (wpAny_bind (wpAny_isOneOf_keyiter (s := { s with heap := s.heap.update it (Obj.mapFields (·.setIfInBounds 1 (rawInt ((i : Int) + 1)))) }) st.typeIs ?_)))
  exact wpAny_pure (wpAny_pure ⟨_, rfl, wpAny_pure (q _ st (Heap.SameBut.update ..))⟩)
theorem kiter_end {it d : Addr} {i ep : Nat} {od : Obj} {es : Array DictEntry} {Q : Option Value → Shared → Prop} (hh : A.handled = none) (hit : s.heap.IsKeyIter it d i es.size ep) (ho : s.heap.get? d = some od) (hdat : od.data = .dict es ep) (hi : es.size ≤ i)
    (q : ∀ h', Heap.ExtBut it s.heap h' → Q none { s with heap := h' }) : wpAny (model prog w) A (pyNext (.ref it)) Q E s := by
  obtain ⟨o, hoi, hci, hdi⟩ := id hit
  have own : Builtin.Dict_items.ownsTuple "dict_keyiterator" = false := by decide
  unfold pyNext
  refine wpAny_bind (wpAny_attempt (wpAny_callSpecial?_slot (name := Str.ofString "__next__") hit.typeIs PySem.F.slot_dict_keyiterator_next (wpAny_call_entry PySem.F.slot_dict_keyiterator_next hit.typeIs PySem.F.entry_dict_keyiterator_next (wpAny_bind (wpAny_pure (wpAny_bind (wpAny_bind ?_)))) (PySem.F.args_dict_keyiterator_next_1 _))))
  first | refine wpAny_bind (wpAny_typeNameOfWhole_keyiter hit.typeIs (wpAny_pure (wpAny_bind (wpAny_fieldsOf hoi hdi ?_)))) | refine wpAny_bind (wpAny_typeNameOf_keyiter hit.typeIs (wpAny_pure (wpAny_bind (wpAny_fieldsOf hoi hdi ?_))))
  simp only [own, Bool.false_eq_true, if_false]
  show wpAny _ _ (if (Value.ref d == Value.none) = true then _ else _) _ _ s
  have nv : ¬ ((Value.ref d == Value.none) = true) := Bool.false_ne_true
  rw [if_neg nv]
  refine wpAny_bind (wpAny_pure (wpAny_bind (wpAny_dictEntries ho hdat ?_)))
  rw [if_neg (by simp)]
  refine wpAny_bind (wpAny_pure (wpAny_bind (wpAny_dictEpoch ho hdat ?_)))
  rw [if_neg (by simp)]
  refine wpAny_pure ?_
  simp only [show ¬ ((i : Int) < 0) from by omega, if_false, Int.toNat_natCast, Array.getElem?_eq_none hi]
  refine wpAny_bind ?_
  first | refine wpAny_bind (wpAny_typeNameOfWhole_keyiter hit.typeIs (wpAny_pure ?_)) | refine wpAny_bind (wpAny_typeNameOf_keyiter hit.typeIs (wpAny_pure ?_))
  refine wpAny_bind (m := setField (.ref it) 0 .none) (wpAny_setField hoi hdi (by simp) ?_)
  refine wpAny_bind (m := newExc (.type "StopIteration") []) ?_
  simp only [newExc, newTuple]
  refine wpAny_bind (wpAny_newObj_type (wpAny_bind (m := firstArgMember _ _) (wpAny_of_eq (a := Value.none) (by first | rfl | (simp only [firstArgMember]; rfl)) (wpAny_newObj_type ?_ (by size_fits)))) (by size_fits))
  simp only [raiseNew]
  refine wpAny_bind (wpAny_handled ?_)
  rw [show A.in1.handled = none from hh]
  refine wpAny_bind (wpAny_pure (wpAny_throw ?_))
  refine wpAny_bind (wpAny_isInstance (T := "StopIteration") (b := true) ⟨_, Heap.get?_push_size _ rfl, rfl⟩ isSubtype_stop (wpAny_pure ?_))
  exact q _ (((Heap.SameBut.update ..).extBut.push _).push _)
end
end L2
set_option Elab.async false
set_option linter.all false
set_option maxRecDepth 100000
set_option maxHeartbeats 4000000
namespace L2
open PySem PySem.Spec PyProof.Rows
section
variable {X : Cx} {tg : Expr} {pins : List (Addr × Obj)} {σ : St} {H : Hp} {s : Shared}
theorem paired_at {kvs : List (List Key × V)} {xs : List (List Key × Addr × Value)} {H : Hp} : Paired (fun (p : List Key × V) (q : List Key × Addr × Value) => p.1 = q.1 ∧ H q.2.1 = some (.tup (p.1.map kV)) ∧ RelV p.2 q.2.2) kvs xs → ∀ (j : Nat) (b : Addr) (kv : List Key × V), (xs.map fun q => q.2.1)[j]? = some b → kvs[j]? = some kv → H b = some (.tup (kv.1.map kV))
  | .nil, j, b, kv, h, _ => by cases h
  | .cons r t, 0, b, kv, h, h' => by cases h; cases h'; exact r.2.1
  | .cons r t, j + 1, b, kv, h, h' => paired_at t j b kv h h'
end
end L2
set_option Elab.async false
set_option linter.all false
set_option maxRecDepth 100000
set_option maxHeartbeats 4000000
namespace L2
open PySem PySem.Spec PyProof.Rows
section
open PySem.SeqAt
open PySem.AutoSeq1 (wpAny_loadPart')
open PySem.MeetsSeq PySem.MeetsSeq2 PySem.MeetsSeq3
theorem extendT (l b : Addr) (items items2 : Array Value) (n n2 : Nat) (dd : Option Addr) (sl : Array (Option Value)) (hs0 : ¬ (!items.isEmpty && Builtin.List.listTooLong (items.size + items2.size)) = true) (hs1 : items.size ≤ sizeLine) (hs2 : items.size + items2.size ≤ sizeLine + 1) :
    Meets (Builtin.«list.extend» ⟨[.ref l, .ref b], []⟩)
      (fun _ R s => s.heap.get? l = some { cls := .type "list", dict := none, data := .seq items n, slots := #[] } ∧ s.heap.get? b = some { cls := .type "tuple", dict := dd, data := .seq items2 n2, slots := sl } ∧ R (.ok (.ret Value.none)) { s with heap := s.heap.update l (Obj.mapSeq fun x => x ++ items2), toks := s.toks }) :=
  .of_wp fun prog w A R s h => by
    obtain ⟨hp, g, d, tk, os⟩ := s
    obtain ⟨hl, hb, h⟩ := h
    have f5 := AutoSeq1.sub_list_tuple
    have f3 := AutoSeq1.sub_list_list
    have zz : (items ++ items2).size ≤ sizeLine + 1 := by rw [Array.size_append]; exact hs2
    wp_walk using (wpAny_updateSeq hl rfl (hz := hs1) (_hz' := zz)), wpAny_loadPart' hl, wpAny_loadPart' hb
    exact ⟨_, rfl, h⟩
end
section
variable {X : Cx}
def rExtT : V → List V → Hp → VK → Prop := fun x vs H Q => ∃ l b xs zs, x = .ref l ∧ vs = [.ref b] ∧ H l = some (.lst xs) ∧ H b = some (.tup zs) ∧ xs.length + zs.length ≤ sizeLine ∧ Q .non (upd H l (.lst (xs ++ zs)))
theorem mt_extT : MtM X "list.extend" rExtT := by
  intro pins s σ H x vs v us Q I rx rv h
  obtain ⟨l, b, xs, zs, rfl, rfl, hH, hB, hz, q⟩ := h
  cases rx
  obtain ⟨u, rfl, ru⟩ := rv.one
  cases ru
  obtain ⟨z, its, n, r, hl, e⟩ := I.lstM hH
  obtain ⟨its2, r2, ⟨⟨cls, dd, data, sl⟩, e2, hc, n2, hd⟩, _⟩ := I.tuple (.of hB)
  simp only at hc hd
  subst hc hd
  have l2 := r2.length
  have hsz : its.toArray.size + its2.toArray.size ≤ sizeLine := by rw [List.size_toArray, List.size_toArray]; omega
  have hlong : ¬ (!its.toArray.isEmpty && Builtin.List.listTooLong (its.toArray.size + its2.toArray.size)) = true := by rw [notLongL hsz, Bool.and_false]; decide
  refine call_meets PySem.F.slot_list_extend ⟨_, e, rfl⟩ PySem.F.entry_list_extend (PySem.F.args_list_extend_2 _ _) (extendT l b its.toArray its2.toArray n n2 dd sl hlong (by rw [List.size_toArray]; omega) (by omega)) ⟨e, e2, .non, _, I.lset (its' := its ++ its2) hH e (by simp) (r.append r2) (by rw [List.length_append]; omega), rfl, q⟩
end
end L2
set_option Elab.async false
set_option linter.all false
set_option maxRecDepth 100000
set_option maxHeartbeats 4000000
namespace L2
open PySem PySem.Spec PyProof.Rows
open PySem.W (kas_sort kas_ask)
def ltL : List (Int × Int) → List (Int × Int) → Bool
  | [], ys => decide (0 < ys.length)
  | _ :: _, [] => false
  | x :: xs, y :: ys => if x = y then ltL xs ys else HT.lexLt [x.1, x.2] [y.1, y.2]
section
variable {prog : Program} {w : World} {A : Around} {E : Value → Shared → Prop} {s : Shared} {R : Result → Shared → Prop}
end
end L2
set_option Elab.async false
set_option linter.all false
set_option maxRecDepth 100000
set_option maxHeartbeats 4000000
namespace L2
open PySem PySem.Spec PyProof.Rows
open PySem.W (kas_sort kas_ask)
section
variable {prog : Program} {w : World} {A : Around} {E : Value → Shared → Prop} {s : Shared} {C : Bool → Shared → Prop}
end
end L2
set_option Elab.async false
set_option linter.all false
set_option maxRecDepth 100000
set_option maxHeartbeats 4000000
namespace L2
open PySem PySem.Spec PyProof.Rows
open PySem.W (KasT kas_asc kas_desc kas_rev kas_tail3 kas_descPart kas_count kas_place kas_bin kas_sort)
structure Tot (n : Nat) (ans : Nat → Nat → Bool) : Prop where
  irr : ∀ i, ans i i = false
  tr : ∀ i j k, ans i j = true → ans j k = true → ans i k = true
  tot : ∀ i j, i < n → j < n → i ≠ j → ans i j = true ∨ ans j i = true
def Up (ans : Nat → Nat → Bool) (p : Array Nat) (m : Nat) : Prop := ∀ i j, i < j → j < m → ans (p.getD i 0) (p.getD j 0) = true
def Down (ans : Nat → Nat → Bool) (p : Array Nat) (m : Nat) : Prop := ∀ i j, i < j → j < m → ans (p.getD j 0) (p.getD i 0) = true
theorem ansT_bind {α β : Type} {ans : Nat → Nat → Bool} {f : α → KasT β} : ∀ t : KasT α, ansT ans (t.bind f) = ansT ans (f (ansT ans t))
  | .ret _ => rfl
  | .ask i j k => ansT_bind (k (ans i j))
section
variable {n : Nat} {ans : Nat → Nat → Bool}
theorem Ord.ne {p : Array Nat} (h : Ord n p) {i j : Nat} (hij : i < j) (hj : j < n) : p.getD i 0 ≠ p.getD j 0 := by
  have z : p.size = n := by have := h.length_eq; simpa using this
  have nd : p.toList.Nodup := h.nodup_iff.mpr List.nodup_range
  have e1 : p.getD i 0 = p.toList[i]'(by simp; omega) := by simp [Array.getD, show i < p.size by omega]
  have e2 : p.getD j 0 = p.toList[j]'(by simp; omega) := by simp [Array.getD, show j < p.size by omega]
  rw [e1, e2]
  exact (List.pairwise_iff_getElem.mp nd) i j _ _ hij
theorem Tot.fl (T : Tot n ans) {p : Array Nat} (h : Ord n p) {i j : Nat} (hij : i < j) (hj : j < n) (hf : ans (p.getD j 0) (p.getD i 0) = false) : ans (p.getD i 0) (p.getD j 0) = true := by
  rcases T.tot _ _ (h.get (by omega) i) (h.get (by omega) j) (h.ne hij hj) with z | z
  · exact z
  · rw [hf] at z; cases z
theorem Up.step (T : Tot n ans) {p : Array Nat} {m : Nat} (u : Up ans p m) (h : ∀ i, i + 1 = m → ans (p.getD i 0) (p.getD m 0) = true) : Up ans p (m + 1) := fun i j hij hj => by
  by_cases z : j < m
  · exact u i j hij z
  · have e : j = m := by omega
    subst e
    by_cases y : i + 1 = j
    · exact h i y
    · exact T.tr _ _ _ (u i (j - 1) (by omega) (by omega)) (h (j - 1) (by omega))
theorem Down.step (T : Tot n ans) {p : Array Nat} {m : Nat} (u : Down ans p m) (h : ∀ i, i + 1 = m → ans (p.getD m 0) (p.getD i 0) = true) : Down ans p (m + 1) := fun i j hij hj => by
  by_cases z : j < m
  · exact u i j hij z
  · have e : j = m := by omega
    subst e
    by_cases y : i + 1 = j
    · exact h i y
    · exact T.tr _ _ _ (h (j - 1) (by omega)) (u i (j - 1) (by omega) (by omega))
theorem up_asc (T : Tot n ans) {p : Array Nat} (h : Ord n p) : ∀ f m, 1 ≤ m → m + f = n → Up ans p m → m ≤ ansT ans (kas_asc p f m) ∧ ansT ans (kas_asc p f m) ≤ n ∧ Up ans p (ansT ans (kas_asc p f m)) ∧ (ansT ans (kas_asc p f m) < n → ans (p.getD (ansT ans (kas_asc p f m)) 0) (p.getD (ansT ans (kas_asc p f m) - 1) 0) = true)
  | 0, m, h1, hm, u => ⟨Nat.le_refl _, by show m ≤ n; omega, u, fun z => by have : m < n := z; omega⟩
  | f + 1, m, h1, hm, u => by
    have e : ansT ans (kas_asc p (f + 1) m) = ansT ans (if ans (p.getD m 0) (p.getD (m - 1) 0) = true then .ret m else kas_asc p f (m + 1)) := rfl
    rw [e]
    cases c : ans (p.getD m 0) (p.getD (m - 1) 0) with
    | true => rw [if_pos rfl]; exact ⟨Nat.le_refl _, by show m ≤ n; omega, u, fun _ => c⟩
    | false =>
      rw [if_neg (by decide)]
      obtain ⟨a1, a2, a3⟩ := up_asc T h f (m + 1) (by omega) (by omega) (u.step T fun i hi => by
        have e : m - 1 = i := by omega
        rw [e] at c
        exact T.fl h (by omega) (by omega) c)
      exact ⟨by omega, a2, a3⟩
theorem down_desc (T : Tot n ans) {p : Array Nat} (h : Ord n p) : ∀ f m, 1 ≤ m → m + f = n → Down ans p m → ∃ m', ansT ans (kas_desc f p m 0) = (p, m', 0) ∧ m ≤ m' ∧ m' ≤ n ∧ Down ans p m'
  | 0, m, h1, hm, u => ⟨m, rfl, Nat.le_refl _, by omega, u⟩
  | f + 1, m, h1, hm, u => by
    have e : ansT ans (kas_desc (f + 1) p m 0) = ansT ans (if ans (p.getD m 0) (p.getD (m - 1) 0) = true then (if 0 > 0 then kas_desc f (kas_rev p (m - (0 + 1)) m) (m + 1) 0 else kas_desc f p (m + 1) 0)
      else .ask (p.getD (m - 1) 0) (p.getD m 0) fun d => if d = true then .ret (p, m, 0) else kas_desc f p (m + 1) (0 + 1)) := rfl
    rw [e]
    cases c : ans (p.getD m 0) (p.getD (m - 1) 0) with
    | true =>
      rw [if_pos rfl, if_neg (by decide)]
      obtain ⟨m', a1, a2, a3⟩ := down_desc T h f (m + 1) (by omega) (by omega) (u.step T fun i hi => by
        have e : m - 1 = i := by omega
        rw [e] at c
        exact c)
      exact ⟨m', a1, by omega, a3⟩
    | false =>
      rw [if_neg (by decide)]
      have y := T.fl h (i := m - 1) (j := m) (by omega) (by omega) c
      show ∃ m', ansT ans (if ans (p.getD (m - 1) 0) (p.getD m 0) = true then .ret (p, m, 0) else kas_desc f p (m + 1) (0 + 1)) = _ ∧ _
      rw [y, if_pos rfl]
      exact ⟨m, rfl, Nat.le_refl _, by omega, u⟩
theorem rev_getD {p : Array Nat} {m : Nat} (hm : m ≤ p.size) {k : Nat} (hk : k < m) : (kas_rev p 0 m).getD k 0 = p.getD (m - 1 - k) 0 := by
  have e : (kas_rev p 0 m)[k]? = p[m - 1 - k]? := by
    unfold kas_rev
    rw [getElem?_mirror_all hm, if_pos (by omega)]
    congr 1
    omega
  rw [Array.getD_eq_getD_getElem?, Array.getD_eq_getD_getElem?, e]
theorem up_count (T : Tot n ans) (hn : 0 < n) {p : Array Nat} (h : Ord n p) : ∃ m p', ansT ans (kas_count n p) = (m, p') ∧ 1 ≤ m ∧ m ≤ n ∧ Up ans p' m := by
  have u1 : Up ans p 1 := fun i j hij hj => by omega
  have z : p.size = n := by have := h.length_eq; simpa using this
  obtain ⟨a1, a2, a3, a4⟩ := up_asc T h (n - 1) 1 (Nat.le_refl _) (by omega) u1
  unfold kas_count
  rw [ansT_bind]
  generalize ansT ans (kas_asc p (n - 1) 1) = m at a1 a2 a3 a4 ⊢
  by_cases c1 : m = n
  · subst c1
    simp only [beq_self_eq_true, if_true]
    exact ⟨m, p, rfl, a1, a2, a3⟩
  · have c1' : (m == n) = false := beq_eq_false_iff_ne.mpr c1
    simp only [c1', Bool.false_eq_true, if_false]
    by_cases c2 : m > 1
    · rw [if_pos c2]
      have y := a3 0 (m - 1) (by omega) (by omega)
      show ∃ m' p', ansT ans (if ans (p.getD 0 0) (p.getD (m - 1) 0) = true then .ret (m, p) else kas_descPart m n (kas_rev p 0 m)) = _ ∧ _
      rw [y, if_pos rfl]
      exact ⟨m, p, rfl, a1, a2, a3⟩
    · have e : m = 1 := by omega
      subst e
      rw [if_neg c2]
      have y := a4 (by omega)
      have d2 : Down ans p (1 + 1) := fun i j hij hj => by
        have e1 : i = 0 := by omega
        have e2 : j = 1 := by omega
        subst e1 e2
        exact y
      obtain ⟨m', b1, b2, b3, b4⟩ := down_desc T h (n - (1 + 1)) (1 + 1) (by omega) (by omega) d2
      unfold kas_descPart
      rw [ansT_bind, b1]
      simp only [gt_iff_lt, Nat.lt_irrefl, if_false]
      unfold kas_tail3
      rw [ansT_bind]
      have o2 : Ord n (kas_rev p 0 m') := h.rev _ _
      have u2 : Up ans (kas_rev p 0 m') m' := fun i j hij hj => by
        rw [rev_getD (by omega) (by omega), rev_getD (by omega) (by omega)]
        exact b4 _ _ (by omega) (by omega)
      obtain ⟨g1, g2, g3, g4⟩ := up_asc T o2 (n - m') m' (by omega) (by omega) u2
      exact ⟨_, _, rfl, by omega, g2, g3⟩
theorem place_up (T : Tot n ans) {p : Array Nat} (h : Ord n p) {k : Nat} (hk : k < n) (u : Up ans p k) : ∀ f l r, l ≤ r → r ≤ k → r - l ≤ f → (∀ i, i < l → ans (p.getD i 0) (p.getD k 0) = true) → (∀ i, r ≤ i → i < k → ans (p.getD k 0) (p.getD i 0) = true) →
    ∃ l', ansT ans (kas_place p k f l r) = l' ∧ l' ≤ k ∧ (∀ i, i < l' → ans (p.getD i 0) (p.getD k 0) = true) ∧ (∀ i, l' ≤ i → i < k → ans (p.getD k 0) (p.getD i 0) = true)
  | 0, l, r, h1, h2, h3, hl, hr => ⟨l, rfl, by omega, hl, fun i a b => hr i (by omega) b⟩
  | f + 1, l, r, h1, h2, h3, hl, hr => by
    unfold kas_place
    by_cases c : l ≥ r
    · rw [if_pos c]; exact ⟨l, rfl, by omega, hl, fun i a b => hr i (by omega) b⟩
    · rw [if_neg c]
      show ∃ l', ansT ans (if ans (p.getD k 0) (p.getD ((l + r) / 2) 0) = true then kas_place p k f l ((l + r) / 2) else kas_place p k f ((l + r) / 2 + 1) r) = l' ∧ _
      have m1 : l ≤ (l + r) / 2 := by omega
      have m2 : (l + r) / 2 < r := by omega
      cases e : ans (p.getD k 0) (p.getD ((l + r) / 2) 0) with
      | true =>
        rw [if_pos rfl]
        refine place_up T h hk u f l _ m1 (by omega) (by omega) hl fun i a b => ?_
        by_cases y : i = (l + r) / 2
        · rw [y]; exact e
        · exact T.tr _ _ _ e (u _ _ (by omega) b)
      | false =>
        rw [if_neg (by decide)]
        have y := T.fl h (i := (l + r) / 2) (j := k) (by omega) hk e
        refine place_up T h hk u f _ r (by omega) h2 (by omega) (fun i a => ?_) hr
        by_cases x : i = (l + r) / 2
        · rw [x]; exact y
        · exact T.tr _ _ _ (u i ((l + r) / 2) (by omega) (by omega)) y
theorem bub_getD {p : Array Nat} {k l : Nat} (hk : k < p.size) (hl : l ≤ k) (i : Nat) : (bubble p k (k - l)).getD i 0 = if i = l then p.getD k 0 else if l < i ∧ i ≤ k then p.getD (i - 1) 0 else p.getD i 0 := by
  have e := getElem?_bubble hk (k - l) (by omega) i
  have x : k - (k - l) = l := by omega
  rw [x] at e
  rw [Array.getD_eq_getD_getElem?, e]
  by_cases c1 : i = l
  · rw [if_pos c1, if_pos c1, Array.getD_eq_getD_getElem?]
  · rw [if_neg c1, if_neg c1]
    by_cases c2 : l < i ∧ i ≤ k
    · rw [if_pos c2, if_pos c2, Array.getD_eq_getD_getElem?]
    · rw [if_neg c2, if_neg c2, Array.getD_eq_getD_getElem?]
theorem up_bin (T : Tot n ans) : ∀ f (p : Array Nat) k, Ord n p → 1 ≤ k → k + f = n → Up ans p k → Up ans (ansT ans (kas_bin f p k)) n
  | 0, p, k, h, h1, hk, u => by have e : k = n := by omega
                                subst e; exact u
  | f + 1, p, k, h, h1, hk, u => by
    have z : p.size = n := by have := h.length_eq; simpa using this
    unfold kas_bin
    rw [ansT_bind]
    obtain ⟨l, e, a1, a2, a3⟩ := place_up T h (k := k) (by omega) u k 0 k (Nat.zero_le _) (Nat.le_refl _) (by omega) (fun i hi => by omega) (fun i a b => by omega)
    rw [e]
    refine up_bin T f _ (k + 1) (h.of (bubble_perm _ _ _)) (by omega) (by omega) fun i j hij hj => ?_
    rw [bub_getD (by omega) a1, bub_getD (by omega) a1]
    by_cases c1 : i = l
    · rw [if_pos c1, if_neg (by omega), if_pos (by omega)]
      exact a3 _ (by omega) (by omega)
    · rw [if_neg c1]
      by_cases c2 : l < i ∧ i ≤ k
      · rw [if_pos c2, if_neg (by omega), if_pos (by omega)]
        exact u _ _ (by omega) (by omega)
      · rw [if_neg c2]
        by_cases c3 : j = l
        · rw [if_pos c3]; exact a2 _ (by omega)
        · rw [if_neg c3]
          by_cases c4 : l < j ∧ j ≤ k
          · rw [if_pos c4]
            exact u _ _ (by omega) (by omega)
          · rw [if_neg c4]
            exact u _ _ (by omega) (by omega)
theorem up_sort (T : Tot n ans) (hn : 0 < n) : Up ans (ansT ans (kas_sort n)) n := by
  have o0 : Ord n (List.toArray (List.range n)) := by unfold Ord; simp
  obtain ⟨m, p, e, m1, m2, u⟩ := up_count T hn o0
  have o1 : Ord n (m, p).2 := by
    rw [← e]
    exact Asks.ends (asks_count hn o0)
  unfold kas_sort
  rw [ansT_bind, e]
  by_cases c : m < n
  · simp only [c, if_true]
    have x : max m 1 = m := by omega
    rw [x]
    exact up_bin T (n - m) p m o1 m1 (by omega) u
  · simp only [c, if_false]
    have x : m = n := by omega
    subst x
    exact u
end
end L2
set_option Elab.async false
set_option linter.all false
set_option maxRecDepth 100000
set_option maxHeartbeats 4000000
namespace L2
open PySem PySem.Spec PyProof.Rows
open PySem.W (kas_sort kas_ask)
section
variable {X : Cx} {pins : List (Addr × Obj)} {σ : St} {H : Hp} {s : Shared}
end
def TupR (h : Heap) (v : Value) (ns ms : List Int) (l r : Bool) : Prop := ∃ (a : Addr) (x y : Value) (n : Nat) (dd : Option Addr) (sl : Array (Option Value)), v = .ref a ∧ h.get? a = some { cls := .type "tuple", dict := dd, data := .seq #[x, y, .bool l, .bool r] n, slots := sl } ∧ TupI h x ns ∧ TupI h y ms
theorem TupR.keeps {g h : Heap} {v : Value} {ns ms : List Int} {l r : Bool} (t : TupR g v ns ms l r) (k : Keeps g h) : TupR h v ns ms l r := by
  obtain ⟨a, x, y, n, dd, sl, e, o, i, j⟩ := t
  exact ⟨a, x, y, n, dd, sl, e, k _ _ o, i.keeps k, j.keeps k⟩
section
variable {prog : Program} {w : World} {A : Around} {E : Value → Shared → Prop} {s : Shared} {C : Bool → Shared → Prop}
end
open PySem.W (KatTups) in
section
variable {X : Cx} {pins : List (Addr × Obj)} {σ : St} {H : Hp} {s : Shared}
end
end L2
set_option Elab.async false
set_option linter.all false
set_option maxRecDepth 100000
set_option maxHeartbeats 4000000
namespace L2
open PySem PySem.Spec PyProof.Rows
open PySem.W (CodeHd codeHdIn tabIn)
structure FunC (K : PySem.W.Frag) (x qual : Str) (st : Stmt) (f : Addr) (fd : FuncData) (c P : Addr) : Prop where
  ex : ∃ (oc : Value) (od : Option Addr) (kV doc pm : Value) (an : Option Addr) (ct : Value) (osl : Array (Option Value)),
    fd = PySem.W.fnOf x qual (defArgs st) (defBody st) (defScope st) .none kV doc pm an (.ref c) ct ∧ K.lookup f = some ⟨oc, od, .func fd, osl⟩ ∧ PySem.W.codeIn K (.ref c) qual = true
  hd : codeHdIn K c P = true
section
variable {P : Program} {w : World} {K : PySem.W.Frag} {mg : Str → Option Value} {base : Heap}
theorem FunC.ok {x qual : Str} {st : Stmt} {f c tb : Addr} {fd : FuncData} {N ps : List Str} {k : Nat} {sp : Sp} (F : FunC K x qual st f fd c tb) (S : FnScope N ps (defScope st)) (len : ∀ vs H Q E, sp vs H Q E → vs.length = ps.length)
    (hbody : ∀ (A : Around) (outer : List Env) (s : Shared) (H : Hp) (vs : List V) (Q : VK) (E : XK), Room k (A.deeper (envOfC qual (defScope st) s.heap.objs.size f (.ref c))) → sp vs H Q E →
      ∃ t, PSs (cxOf CX0 P w K mg base N qual (defScope st) f (.ref c) A outer s H E).nox (defBody st) t ∧ t { nx := fun _ H' => Q .non H', rt := Q } (start N vs) H) : FnOk P w K mg base CX0 (k + 1) f fd ps sp := by
  obtain ⟨oc, od, kV, doc, pm, an, ct, osl, rfl, lk, hcd⟩ := F.ex
  refine fn_of lk hcd S len fun A outer s H vs Q E hr hsp => ?_
  obtain ⟨t, h, q⟩ := hbody A outer s H vs Q E hr hsp
  exact ⟨t, h.nox, q⟩
end
section
variable {X : Cx}
end
theorem LamTab.ne {H : Hp} {P : Addr} {pos : Pos} {q : Str} (t : LamTab H P pos q) {a : Addr} {o : HO} (h : H a = some o) (n : ∀ ps, o ≠ .tbl ps) : a ≠ P := fun z => by
  obtain ⟨ps, e, _⟩ := t
  rw [z, e] at h
  cases h
  exact n ps rfl
theorem SameT.tup {P : Addr} {pos : Pos} {q : Str} {H H' : Hp} (g : SameT P H H') (t : LamTab H P pos q) {a : Addr} {xs : List V} (h : H a = some (.tup xs)) : H' a = some (.tup xs) := g a _ (t.ne h fun _ z => nomatch z) h
theorem SameT.lst {P : Addr} {pos : Pos} {q : Str} {H H' : Hp} (g : SameT P H H') (t : LamTab H P pos q) {a : Addr} {xs : List V} (h : H a = some (.lst xs)) : H' a = some (.lst xs) := g a _ (t.ne h fun _ z => nomatch z) h
end L2
set_option Elab.async false
set_option linter.all false
set_option maxRecDepth 100000
set_option maxHeartbeats 4000000
namespace L2
open PySem PySem.Spec PyProof.Rows
open PySem.W (kas_sort)
structure STO {α : Type} (lt : α → α → Bool) : Prop where
  irr : ∀ a, lt a a = false
  tr : ∀ a b c, lt a b = true → lt b c = true → lt a c = true
  tot : ∀ a b, a ≠ b → lt a b = true ∨ lt b a = true
def lexB {α β : Type} [DecidableEq α] (r : α → α → Bool) (s : β → β → Bool) (a b : α × β) : Bool := if a.1 = b.1 then s a.2 b.2 else r a.1 b.1
theorem STO.lex {α β : Type} [DecidableEq α] {r : α → α → Bool} {s : β → β → Bool} (R : STO r) (S : STO s) : STO (lexB r s) where
  irr a := by unfold lexB; rw [if_pos rfl]; exact S.irr _
  tr a b c h1 h2 := by
    unfold lexB at *
    by_cases e1 : a.1 = b.1
    · rw [if_pos e1] at h1
      by_cases e2 : b.1 = c.1
      · rw [if_pos e2] at h2
        rw [if_pos (e1.trans e2)]
        exact S.tr _ _ _ h1 h2
      · rw [if_neg e2] at h2
        rw [if_neg (fun z => e2 (e1.symm.trans z)), e1]
        exact h2
    · rw [if_neg e1] at h1
      by_cases e2 : b.1 = c.1
      · rw [if_neg (fun z => e1 (z.trans e2.symm)), ← e2]
        exact h1
      · rw [if_neg e2] at h2
        have n : a.1 ≠ c.1 := fun z => by
          rw [← z] at h2
          have := R.tr _ _ _ h1 h2
          rw [R.irr] at this
          cases this
        rw [if_neg n]
        exact R.tr _ _ _ h1 h2
  tot a b h := by
    unfold lexB
    by_cases e : a.1 = b.1
    · rw [if_pos e, if_pos e.symm]
      exact S.tot _ _ fun z => h (Prod.ext e z)
    · rw [if_neg e, if_neg fun z => e z.symm]
      exact R.tot _ _ e
theorem STO.int : STO (fun a b : Int => decide (a < b)) where
  irr a := decide_eq_false (by omega)
  tr a b c h1 h2 := decide_eq_true (by have := of_decide_eq_true h1; have := of_decide_eq_true h2; omega)
  tot a b h := by
    rcases Int.lt_or_gt_of_ne h with h | h
    · exact .inl (decide_eq_true h)
    · exact .inr (decide_eq_true h)
abbrev lt2 : Int × Int → Int × Int → Bool := lexB (fun a b => decide (a < b)) (fun a b => decide (a < b))
theorem sto2 : STO lt2 := STO.int.lex STO.int
abbrev lt3 : Int × Int × Int → Int × Int × Int → Bool := lexB (fun a b => decide (a < b)) lt2
theorem sorted_of {α β : Type} {lt : β → β → Bool} (S : STO lt) (k : α → β) (z : α) {fs : List α} (nd : (fs.map k).Nodup) {p : Array Nat} (or : Ord fs.length p) (ep : 2 ≤ fs.length → p = ansT (fun i j => lt (k (fs.getD i z)) (k (fs.getD j z))) (kas_sort fs.length)) :
    (p.toList.map fun i => fs.getD i z).Perm fs ∧ (p.toList.map fun i => fs.getD i z).Pairwise fun a b => lt (k a) (k b) = true := by
  have rg : ((List.range fs.length).map fun i => fs.getD i z) = fs := by
    refine List.ext_getElem (by simp) fun i h1 h2 => ?_
    have hi : i < fs.length := h2
    simp [hi]
  have lo : p.toList.length = fs.length := by rw [or.length_eq, List.length_range]
  refine ⟨?_, ?_⟩
  · have := or.map fun i => fs.getD i z
    rw [rg] at this
    exact this
  · by_cases h2 : 2 ≤ fs.length
    · have nd' := List.pairwise_map.mp nd
      have T : Tot fs.length (fun i j => lt (k (fs.getD i z)) (k (fs.getD j z))) := ⟨fun i => S.irr _, fun i j l => S.tr _ _ _, fun i j hi hj hn => S.tot _ _ fun e => hn (by
        have e1 : fs.getD i z = fs[i] := by simp [hi]
        have e2 : fs.getD j z = fs[j] := by simp [hj]
        rw [e1, e2] at e
        rcases Nat.lt_trichotomy i j with h | h | h
        · exact absurd e ((List.pairwise_iff_getElem.mp nd') i j hi hj h)
        · exact h
        · exact absurd e.symm ((List.pairwise_iff_getElem.mp nd') j i hj hi h))⟩
      have u := up_sort T (by omega)
      rw [← ep h2] at u
      refine List.pairwise_iff_getElem.mpr fun i j hi hj hij => ?_
      have hi' : i < p.size := by simpa using hi
      have hj' : j < p.size := by simpa using hj
      have hn : p.size = fs.length := by simpa using lo
      have := u i j hij (by omega)
      have e1 : p.getD i 0 = p[i] := by simp [Array.getD, hi']
      have e2 : p.getD j 0 = p[j] := by simp [Array.getD, hj']
      rw [e1, e2] at this
      simpa using this
    · have l1 : (p.toList.map fun i => fs.getD i z).length ≤ 1 := by rw [List.length_map, lo]; omega
      revert l1
      generalize (p.toList.map fun i => fs.getD i z) = ws
      intro l1
      match ws, l1 with
      | [], _ => exact .nil
      | [a], _ => exact List.pairwise_singleton _ _
end L2
namespace L2
open PySem
theorem hu80 {A : Around} {k : Nat} (hr : Room k A) : A.units + 80 < cLine := by have := hu100 hr; omega
def lamAt (st : Stmt) : Scope × Pos := match (defBody st).getLast? with
  | some (.Return (some (.Call _ _ (⟨_, .Lambda _ _ sc lp, _⟩ :: _) _)) _) => (sc, lp)
  | _ => (defScope st, ⟨0, 0, 0, 0⟩)
end L2
set_option Elab.async false
set_option linter.all false
set_option maxRecDepth 100000
set_option maxHeartbeats 4000000
namespace L2
open PySem PySem.Spec PyProof.Rows
end L2
set_option Elab.async false
set_option linter.all false
set_option maxRecDepth 100000
set_option maxHeartbeats 4000000
namespace L2
open PySem PySem.Spec PyProof.Rows
end L2
set_option Elab.async false
set_option linter.all false
set_option maxRecDepth 100000
set_option maxHeartbeats 4000000
namespace L2
open PySem PySem.Spec PyProof.Rows
end L2
set_option Elab.async false
set_option linter.all false
set_option maxRecDepth 100000
set_option maxHeartbeats 4000000
namespace L2
open PySem PySem.Spec PyProof.Rows
section
variable {prog : Program} {w : World} {A : Around} {E : Value → Shared → Prop} {s : Shared} {K : Type} [DecidableEq K] {knd : KeyKind prog w K}
end
end L2
set_option Elab.async false
set_option linter.all false
set_option maxRecDepth 100000
set_option maxHeartbeats 4000000
namespace L2
open PySem PySem.Spec PyProof.Rows
section
variable {prog : Program} {w : World} {A : Around} {E : Value → Shared → Prop} {s : Shared} {K : Type} [DecidableEq K] {knd : KeyKind prog w K}
end
end L2
set_option Elab.async false
set_option linter.all false
set_option maxRecDepth 100000
set_option maxHeartbeats 4000000
namespace L2
open PySem PySem.Spec PyProof.Rows
section
variable {prog : Program} {w : World} {A : Around} {E : Value → Shared → Prop} {s : Shared} {K : Type} [DecidableEq K] {knd : KeyKind prog w K}
end
end L2
set_option Elab.async false
set_option linter.all false
set_option maxRecDepth 100000
set_option maxHeartbeats 4000000
namespace L2
open PySem PySem.Spec PyProof.Rows
section
variable {prog : Program} {w : World} {A : Around} {R : Result → Shared → Prop} {I : Addr} {fp wr : List Addr} {G : Array GenState → Array GenState → Prop} {n : Nat} {P : Nat → Value → Prop} {St : Nat → Shared → Prop} {K : Type} [DecidableEq K] {knd : KeyKind prog w K}
end
end L2
set_option Elab.async false
set_option linter.all false
set_option maxRecDepth 100000
set_option maxHeartbeats 4000000
namespace L2
open PySem PySem.Spec PyProof.Rows
section
variable {prog : Program} {w : World} {A : Around} {E : Value → Shared → Prop} {s : Shared} {K : Type} [DecidableEq K] {knd : KeyKind prog w K}
end
end L2
set_option Elab.async false
set_option linter.all false
set_option maxRecDepth 100000
set_option maxHeartbeats 4000000
namespace L2
open PySem PySem.Spec PyProof.Rows
section
variable {prog : Program} {w : World} {A : Around} {E : Value → Shared → Prop} {s : Shared} {K : Type} [DecidableEq K] {knd : KeyKind prog w K}
end
section
variable {X : Cx}
end
end L2
set_option Elab.async false
set_option linter.all false
set_option maxRecDepth 100000
set_option maxHeartbeats 4000000
namespace L2
open PySem PySem.Spec PyProof.Rows
section
variable {prog : Program} {w : World} {A : Around} {E : Value → Shared → Prop} {s : Shared} {R : Result → Shared → Prop}
theorem walks_keys (hh : A.handled = none) (I d : Addr) (hne : d ≠ I) {od : Obj} {es : Array DictEntry} {ep : Nat} (hdat : od.data = .dict es ep) :
    Walks prog w A I [I, d] [I] es.size (fun i v => ∃ e, es[i]? = some e ∧ v = e.key) (fun i h => h.IsKeyIter I d i es.size ep ∧ h.get? d = some od) where
  sub := fun b hb => by simp at hb; simp [hb]
  frame := fun _ _ _ st hk => ⟨st.1.at fun o e => hk I (by simp) o e, hk d (by simp) _ st.2⟩
  item := fun i s Q E hi st hQ => by
    refine kiter_item st.1 st.2 hdat hi fun h' hit' hs' => ?_
    exact hQ _ h' s.toks ⟨_, Array.getElem?_eq_getElem hi, rfl⟩ ⟨hit', hs'.extBut d od hne st.2⟩ fun b o hb e => hs'.extBut b o (fun h => hb (by simp [h])) e
  done := fun s Q E st hQ => kiter_end hh st.1 st.2 hdat (Nat.le_refl _) fun h' he' => hQ h' s.toks fun b o hb e => he' b o (fun h => hb (by simp [h])) e
  self := fun _ _ _ _ st hQ => wpAny_pyIter_keyiter st.1 hQ
theorem extend_dict (hh : A.handled = none) {d : Addr} {od : Obj} {es : Array DictEntry} {ep : Nat} (hd : (d == sysModules) = false) (ho : s.heap.get? d = some od) (hc : od.cls = .type "dict") (hdat : od.data = .dict es ep) (S : Addr) (res : Value) (c₀ : Nat) (hS : s.heap.get? S = some { cls := .type "list", data := .seq #[] c₀ })
    (hR : ∀ h' tk acc' c', (∀ b o, b ≠ S → s.heap.get? b = some o → h'.get? b = some o) → h'.get? S = some { cls := .type "list", dict := none, data := .seq acc' c', slots := #[] } →
      ItemsOf (fun i v => ∃ e, es[i]? = some e ∧ v = e.key) acc' es.size → R (.ok (.ret res)) { s with heap := h', toks := tk }) (hn : es.size ≤ sizeLine) :
    wpAny (model prog w) A.in1 (Builtin.List.listExtendWith (.ref S) (.ref d) res)
      (fun fin s' => match fin with | .done f => R (.ok f) s' | .again c' => c'.quiet = true ∧ codeAny (model prog w) A c' R s') (fun e s' => R (.error e) s') s := by
  have hSd : S ≠ d := fun e => by rw [e, ho] at hS; cases hS; cases hdat
  have hSI : S ≠ s.heap.objs.size := Nat.ne_of_lt (Heap.lt_size hS)
  have hdI : d ≠ s.heap.objs.size := Nat.ne_of_lt (Heap.lt_size ho)
  have hSf : S ∉ [s.heap.objs.size, d] := fun hm => (List.mem_cons.mp hm).elim hSI fun z => hSd (List.mem_singleton.mp z)
  have ty : s.TypeIs (.ref d) "dict" := ⟨od, ho, hc⟩
  unfold Builtin.List.listExtendWith
  refine wpAny_bind (wpAny_typeOf ty ?_)
  have h1 : Builtin.List.listSameRef (.ref S) (.ref d) = false := by simp [Builtin.List.listSameRef, hSd]
  have h2 : (Value.type "dict" == Value.type "list") = false := by decide
  have h3 : (Value.type "dict" == Value.type "tuple") = false := by decide
  simp only [h1, h2, h3, Bool.or_false, Bool.false_eq_true, if_false]
  refine wpAny_bind (kiter_new hd ho hc hdat ?_)
  generalize hit : s.heap.push { cls := .type "dict_keyiterator", data := .fields #[.ref d, .int 0 0, .int es.size 0, .int ep 0] } = h1
  have k1 : ∀ b o, s.heap.get? b = some o → h1.get? b = some o := fun b o e => by rw [← hit]; exact Heap.get?_push_of_some _ e
  have st1 : h1.IsKeyIter s.heap.objs.size d 0 es.size ep := by rw [← hit]; exact ⟨_, Heap.get?_push_size _ rfl, rfl, rfl⟩
  have ty1 : Shared.TypeIs { s with heap := h1 } (.ref d) "dict" := ⟨od, k1 _ _ ho, hc⟩
  refine wpAny_bind (wpAny_holding ?_)
  unfold Builtin.List.listLengthHint
  refine wpAny_bind (wpAny_specialOf ty1 PySem.F.slot_dict_len.lookup ?_)
  wp_delta
  refine wpAny_bind (wpAny_isInstance ty1 (b := true) (by rw [isSubtype_type]; kernel_rfl) ?_)
  show wpAny _ _ (typeOf (Value.ref d) >>= _) _ _ _
  refine wpAny_bind (wpAny_typeOf ty1 ?_)
  refine wpAny_pure ?_
  rw [if_pos (by decide)]
  refine wpAny_bind (wpAny_rule ?_)
  refine wpAny_bind ?_
  show wpAny _ _ (updateSeq S (·.push .none) >>= fun _ => updateSeq S (·.pop)) _ _ _
  have hS₁ := k1 _ _ hS
  refine wpAny_bind (wpAny_updateSeq hS₁ rfl ?_)
  have hS₂ := Heap.get?_update_self (Obj.mapSeq (·.push Value.none)) hS₁ rfl
  refine wpAny_updateSeq (hz := by seq_fits) hS₂ rfl ?_
  have hS₃ := Heap.get?_update_self (Obj.mapSeq (·.pop)) hS₂ rfl
  have oth : ∀ b o, b ≠ S → h1.get? b = some o → ((h1.update S (Obj.mapSeq (·.push Value.none))).update S (Obj.mapSeq (·.pop))).get? b = some o :=
    fun b o hb e => (Heap.get?_update_other _ _ (Ne.symm hb)).trans ((Heap.get?_update_other _ _ (Ne.symm hb)).trans e)
  refine wpAny_pure ⟨plainId_quiet F.plain_extend_loop _, codeAny_extend_loopS (walks_keys (A := A.in1) hh s.heap.objs.size d hdI hdat).toS hn _ hSf _ es.size 0 _ _ _ rfl (Nat.zero_le _) ⟨st1.at fun o e => oth _ o (Ne.symm hSI) e, oth _ _ (Ne.symm hSd) (k1 _ _ ho)⟩ hS₃ (ItemsOf.nil _) fun s' acc' c' hm hS' hacc => ?_⟩
  rw [Moved.eq_with hm]
  refine hR s'.heap s'.toks acc' c' (fun b ob hb e => hm.heap b ob (fun hmem => ?_) (oth b ob hb (k1 _ _ e))) hS' hacc
  rcases List.mem_cons.mp hmem with e' | hmem
  · exact hb e'
  · exact absurd (Heap.lt_size e) (by rw [List.mem_singleton.mp hmem]; exact Nat.lt_irrefl _)
theorem list_init_dict (hh : A.handled = none) {d : Addr} {od : Obj} {es : Array DictEntry} {ep : Nat} (hd : (d == sysModules) = false) (ho : s.heap.get? d = some od) (hc : od.cls = .type "dict") (hdat : od.data = .dict es ep) (S : Addr) (hS : s.heap.get? S = some { cls := .type "list", data := .seq #[] })
    (hR : ∀ h' tk acc' c', (∀ b o, b ≠ S → s.heap.get? b = some o → h'.get? b = some o) → h'.get? S = some { cls := .type "list", dict := none, data := .seq acc' c', slots := #[] } →
      ItemsOf (fun i v => ∃ e, es[i]? = some e ∧ v = e.key) acc' es.size → R (.ok (.ret .none)) { s with heap := h', toks := tk }) (hn : es.size ≤ sizeLine) :
    wpAny (model prog w) A.in1 (Builtin.«list.__init__» ⟨[.ref S, .ref d], []⟩)
      (fun fin s' => match fin with | .done f => R (.ok f) s' | .again c' => c'.quiet = true ∧ codeAny (model prog w) A c' R s') (fun e s' => R (.error e) s') s := by
  have hSd : S ≠ d := fun e => by rw [e, ho] at hS; cases hS; cases hdat
  show wpAny _ _ (do let old ← Builtin.List.listItems (.ref S); Builtin.List.listUpdate (.ref S) (fun _ => #[]); letGo old.toList.reverse; Builtin.List.listExtendWith (.ref S) (.ref d) .none) _ _ s
  refine wpAny_bind ?_
  unfold Builtin.List.listItems
  refine wpAny_bind (wpAny_seqItems hS rfl (wpAny_pure ?_))
  show wpAny _ _ (updateSeq S (fun _ => #[]) >>= fun _ => letGo (#[] : Array Value).toList.reverse >>= fun _ => Builtin.List.listExtendWith (.ref S) (.ref d) .none) _ _ s
  refine wpAny_bind (wpAny_updateSeq hS rfl ?_)
  have hS₂ := Heap.get?_update_self (Obj.mapSeq (fun _ => (#[] : Array Value))) hS rfl
  have oth : ∀ b o, b ≠ S → s.heap.get? b = some o → (s.heap.update S (Obj.mapSeq (fun _ => (#[] : Array Value)))).get? b = some o :=
    fun b o hb e => (Heap.get?_update_other _ _ (Ne.symm hb)).trans e
  refine wpAny_bind (wpAny_letGo ?_)
  refine extend_dict hh hd (oth d _ (Ne.symm hSd) ho) hc hdat S .none _ hS₂ (fun h' tk acc' c' hk hS' hacc => ?_) hn
  exact hR h' tk acc' c' (fun b o hb e => hk b o hb (oth b o hb e)) hS' hacc
theorem call_list_dict {Q : Value → Shared → Prop} (hh : A.handled = none) {d : Addr} {od : Obj} {es : Array DictEntry} {ep : Nat} (hd : (d == sysModules) = false) (ho : s.heap.get? d = some od) (hc : od.cls = .type "dict") (hdat : od.data = .dict es ep)
    (hQ : ∀ h' tk acc' c', (∀ b o, s.heap.get? b = some o → h'.get? b = some o) → h'.get? s.heap.objs.size = some { cls := .type "list", dict := none, data := .seq acc' c', slots := #[] } →
      ItemsOf (fun i v => ∃ e, es[i]? = some e ∧ v = e.key) acc' es.size → Q (.ref s.heap.objs.size) { s with heap := h', toks := tk }) (hn : es.size ≤ sizeLine) :
    wpAny (model prog w) A (call (.type "list") [.ref d]) Q E s := by
  refine callType_codes (Q₁ := fun obj s₁ => obj = .ref s.heap.objs.size ∧ s₁ = { s with heap := s.heap.push { cls := .type "list", data := .seq #[] } }) PySem.F.called_list (PySem.F.typeCall_list_1 _) PySem.F.entry_list_init
    (code_list_new _ ⟨rfl, rfl⟩) fun obj s₁ h₁ => ?_
  obtain ⟨rfl, rfl⟩ := h₁
  have hS : (s.heap.push { cls := .type "list", data := .seq #[] }).get? s.heap.objs.size = some { cls := .type "list", data := .seq #[] } := Heap.get?_push_size _ rfl
  refine ⟨⟨_, hS, rfl⟩, PySem.F.args_list_init_2 _ _, list_init_dict (A := A.in1) hh hd (Heap.get?_push_of_some _ ho) hc hdat _ hS (fun h' tk acc' c' hk hS' hacc => ?_) hn⟩
  exact ⟨rfl, hQ h' tk acc' c' (fun b o e => hk b o (Nat.ne_of_lt (Heap.lt_size e)) (Heap.get?_push_of_some _ e)) hS' hacc⟩
end
section
variable {X : Cx}
def rListD : List V → Hp → VK → Prop := fun xs H Q => ∃ d kvs, xs = [.ref d] ∧ H d = some (.dT kvs) ∧ ∀ (bs : List Addr) l, bs.length = kvs.length → (∀ (j : Nat) (b : Addr) (kv : List Key × V), bs[j]? = some b → kvs[j]? = some kv → H b = some (.tup (kv.1.map kV))) → H l = none → Q (.ref l) (upd H l (.lst (bs.map .ref)))
theorem vals_refsD {f : List Addr} : ∀ {acc : List Value}, acc = f.map Value.ref → Vals (f.map V.ref) acc := by
  intro acc e
  subst e
  induction f with
  | nil => exact .nil
  | cons a f ih => exact .cons rfl ih
theorem call_listD (hc : X.calm = true) : CallR X (.type "list") rListD := by
  intro pins s σ H xs us Q I r h
  obtain ⟨d, kvs, rfl, e, q⟩ := h
  obtain ⟨u, rfl, rx⟩ := vals1 r
  cases rx
  obtain ⟨z, hd, xs, rel, o, es, ep, ho, hx, hdat, he, _⟩ := I.hok d _ e
  have hk : es.toList.map (·.key) = (xs.map fun q => q.2.1).map Value.ref := by
    rw [he, List.map_map, List.map_map]
    rfl
  have lb : (xs.map fun q => q.2.1).length = kvs.length := by rw [List.length_map]; exact (Paired.length rel).symm
  have ls : es.size = kvs.length := by
    have := congrArg List.length hk
    rw [List.length_map, List.length_map, lb] at this
    simpa using this
  refine call_list_dict (I.ok.hd hc) hd ho hx.1 hdat (fun h' tk acc' c' kp hS hacc => ?_) (by omega)
  have ea : acc'.toList = (xs.map fun q => q.2.1).map Value.ref := by
    rw [← hk]
    refine List.ext_getElem? fun j => ?_
    rw [List.getElem?_map, Array.getElem?_toList, Array.getElem?_toList]
    have ha : acc'.size = es.size := hacc.1
    by_cases hj : j < es.size
    · have hj' : j < acc'.size := by omega
      obtain ⟨e, e1, e2⟩ := hacc.2 j acc'[j] (Array.getElem?_eq_getElem hj')
      rw [Array.getElem?_eq_getElem hj', e1, e2]
      rfl
    · rw [Array.getElem?_eq_none (by omega), Array.getElem?_eq_none (by omega)]
      rfl
  refine ⟨.ref s.heap.objs.size, _, I.laid (t' := tk) kp (Nat.le_refl _) (o := .lst ((xs.map fun q => q.2.1).map .ref)) ⟨by rw [List.length_map, lb]; exact z, acc'.toList, c', vals_refsD ea, by simpa using hS⟩, rfl, q _ _ lb (paired_at rel) (I.hok.fresh (Nat.le_refl _))⟩
def rNotInL (K : PySem.W.Frag) : R2 := fun x y H Q => ∃ d es, RdD K H d x ∧ RdD K H (.list es) y ∧ d.canLay0 = true ∧ PyData.canLayAll0 es = true ∧ d.depth ≤ 60 ∧ Q (.bl (!(es.any fun e => PyData.eqv e d))) H
theorem op_notInL (hu : X.A.units + 64 < cLine) : OpR X (compareOp .NotIn) (rNotInL X.K) := by
  intro pins s σ H x y v u Q I rx ry h
  obtain ⟨d, es, hd, he, c1, c2, c3, q⟩ := h
  obtain ⟨as, ra⟩ := reads_of I d x v hd rx
  obtain ⟨bs, rb⟩ := reads_of I _ y u he ry
  exact SeqAt.notIn_list_reads rb ra c2 c1 (by omega) ⟨.bl _, H, I, rfl, q⟩
end
end L2
set_option Elab.async false
set_option linter.all false
set_option maxRecDepth 100000
set_option maxHeartbeats 4000000
namespace L2
open PySem PySem.Spec PyProof.Rows
namespace RV
theorem hint : typeLookup (.type "list_reverseiterator") "__length_hint__" = pure (some (.builtin "list_reverseiterator.__length_hint__")) := by rw [typeLookup_type, builtinLookup_eq_fast]; kernel_rfl
end RV
section
variable {prog : Program} {w : World} {A : Around} {E : Value → Shared → Prop} {s : Shared} {R : Result → Shared → Prop}
end
section
variable {X : Cx}
end
end L2
set_option Elab.async false
set_option linter.all false
set_option maxRecDepth 100000
set_option maxHeartbeats 4000000
namespace L2
open PySem PySem.Spec PyProof.Rows
section
variable {prog : Program} {w : World} {K : Type} [DecidableEq K] (knd : KeyKind prog w K)
inductive ItemsN (h : Heap) : List (List K) → List Value → Prop
  | nil : ItemsN h [] []
  | cons {k : List K} {b : Addr} {ks : List (List K)} {vs : List Value} : IsTupleKey knd h k b → ItemsN h ks vs → ItemsN h (k :: ks) (.ref b :: vs)
def IsNest (h : Heap) (ks : List (List K)) (a : Addr) : Prop := ∃ o items n, h.get? a = some o ∧ o.cls = .type "tuple" ∧ o.data = .seq items n ∧ ItemsN knd h ks items.toList
variable {knd}
theorem ItemsN.inj {h : Heap} {x y : List (List K)} {vs : List Value} (hx : ItemsN knd h x vs) (hy : ItemsN knd h y vs) : x = y := by
  induction hx generalizing y with
  | nil => cases hy; rfl
  | cons h1 _ ih =>
    cases hy with
    | cons h2 t2 => rw [h1.inj h2, ih t2]
theorem IsNest.typeIs {s : Shared} {ks : List (List K)} {a : Addr} (x : IsNest knd s.heap ks a) : s.TypeIs (.ref a) "tuple" := let ⟨o, _, _, ho, hc, _⟩ := x; ⟨o, ho, hc⟩
theorem IsNest.inj {h : Heap} {a : Addr} {x y : List (List K)} (hx : IsNest knd h x a) (hy : IsNest knd h y a) : x = y := by
  obtain ⟨o, items, n, ho, _, hd, hi⟩ := hx
  obtain ⟨o', items', n', ho', _, hd', hi'⟩ := hy
  obtain rfl : o = o' := Option.some.inj (ho.symm.trans ho')
  rw [hd] at hd'
  injection hd' with h1 _
  subst h1
  exact hi.inj hi'
theorem IsNest.keeps {h h' : Heap} {ks : List (List K)} {a d : Addr} {o : Obj} {es ep} (x : IsNest knd h ks a) (ho : h.get? d = some o) (hd : o.data = .dict es ep) (hs : Heap.SameBut d h h') : IsNest knd h' ks a := by
  obtain ⟨o', items, n, ho', hc, hd', hi⟩ := x
  have hne : a ≠ d := by
    rintro rfl
    obtain rfl : o' = o := Option.some.inj (ho'.symm.trans ho)
    rw [hd] at hd'; exact nomatch hd'
  refine ⟨o', items, n, (hs.2 a hne).trans ho', hc, hd', ?_⟩
  generalize items.toList = vs at hi
  induction hi with
  | nil => exact .nil
  | cons h1 _ ih => exact .cons (h1.keeps ho hd hs) ih
def nestHash (knd : KeyKind prog w K) (ks : List (List K)) : Int := reduceHash (Builtin.Tuple.tupleHashOf (ks.map (tupleKeyHash knd)))
def nestDraws (ks : List (List K)) : Nat := (ks.map fun k => k.length + 1).sum
variable {A : Around} {E : Value → Shared → Prop} {s : Shared}
theorem ItemsN.toks {s : Shared} {t : Nat} {ks : List (List K)} {vs : List Value} (h : ItemsN knd s.heap ks vs) : ItemsN knd ({ s with toks := t } : Shared).heap ks vs := h
theorem pyHash_nest {ks : List (List K)} {a : Addr} {Q : Int → Shared → Prop} (hu : A.units + 2 < cLine) (hk : IsNest knd s.heap ks a) (h : Q (nestHash knd ks) { s with toks := s.toks + (nestDraws ks + 1) }) :
    wpAny (model prog w) A (pyHash (.ref a)) Q E s := by
  have hT := hk.typeIs
  obtain ⟨o, items, n, ho, _, hd, hi⟩ := hk
  unfold pyHash
  first | unfold pyHashByItsType | skip
  first | refine wpAny_bind (wpAny_cRoomFor_or (.inr (by omega)) ?_) | skip
  refine wpAny_bind (wpAny_specialOf hT PySem.F.slot_tuple_hash.lookup ?_)
  show wpAny _ _ (if (some (Value.builtin "tuple.__hash__") == some Value.none) = true then _ else _) Q E s
  rw [if_neg (by rw [beq_builtin_none]; exact Bool.false_ne_true)]
  refine wpAny_bind (wpAny_specialOf hT PySem.F.slot_tuple_hash.lookup ?_)
  show wpAny _ _ (callSpecialIfBoundUnlessNone? (.ref a) "__hash__" _ >>= _) Q E s
  refine wpAny_bind (wpAny_callSpecialIfBoundUnlessNone?_slot hT PySem.F.slot_tuple_hash (wpAny_call_entry PySem.F.slot_tuple_hash hT PySem.F.entry_tuple_hash ?_ (PySem.F.args_tuple_hash_1 _)))
  show wpAny _ _ (Builtin.Tuple.tupleItemsOf (.ref a) >>= _) _ _ s
  refine wpAny_bind (wpAny_tupleItemsOf ho hd ?_)
  refine wpAny_bind ?_
  rw [← Array.forIn_toList]
  refine wpAny_forIn_list _
    (fun rest (b : Array Int) s' => ∃ done left, ks = done ++ left ∧ ItemsN knd s.heap left rest ∧ b.toList = done.map (tupleKeyHash knd) ∧ s' = { s with toks := s.toks + nestDraws done })
    _ ?_ ?_ _ _ ⟨[], ks, rfl, hi, rfl, rfl⟩
  · rintro x rest b s' ⟨done, left, rfl, hl, hb, rfl⟩
    cases hl with
    | @cons k b' ks' _ h1 hl' =>
      refine wpAny_bind ((tupleKind knd).pyHash (k := k) (tupleKind_room_in1 (by omega)) h1 ?_)
      have e : nestDraws (done ++ [k]) = nestDraws done + (k.length + 1) := by simp [nestDraws]
      have eh : ∀ t, ({ ({ s with toks := s.toks + nestDraws done } : Shared) with toks := t } : Shared) = { s with toks := t } := fun _ => rfl
      first
        | exact wpAny_pure ⟨done ++ [k], ks', by simp, hl', by simp [hb, tupleKind], by rw [e, ← Nat.add_assoc]; rfl⟩
        | exact wpAny_bind (wpAny_pure (wpAny_pure ⟨done ++ [k], ks', by simp, hl', by simp [hb, tupleKind], by rw [e, ← Nat.add_assoc]; rfl⟩))
  · rintro b s' ⟨done, left, rfl, hl, hb, rfl⟩
    cases hl
    rw [List.append_nil] at h
    show wpAny _ _ (retInt (Builtin.Tuple.tupleHashOf b.toList)) _ _ _
    rw [hb]
    refine wpAny_ret_mkInt ?_
    show wpAny _ _ (if (decide (-(2 : Int) ^ 63 ≤ Builtin.Tuple.tupleHashOf (done.map (tupleKeyHash knd))) && decide (Builtin.Tuple.tupleHashOf (done.map (tupleKeyHash knd)) < 2 ^ 63)) = true then _ else _) Q E _
    unfold nestHash reduceHash at h
    by_cases hr : (decide (-(2 : Int) ^ 63 ≤ Builtin.Tuple.tupleHashOf (done.map (tupleKeyHash knd))) && decide (Builtin.Tuple.tupleHashOf (done.map (tupleKeyHash knd)) < 2 ^ 63)) = true
    · rw [if_pos hr]
      rw [if_pos hr] at h
      exact wpAny_pure (by simpa [Nat.add_assoc] using h)
    · rw [if_neg hr]
      rw [if_neg hr] at h
      exact wpAny_bind (wpAny_rule (wpAny_pure (by simpa [Nat.add_assoc] using h)))
theorem ItemsN.len {h : Heap} {x : List (List K)} {vs : List Value} (hx : ItemsN knd h x vs) : x.length = vs.length := by
  induction hx with
  | nil => rfl
  | cons _ _ ih => simp [ih]
theorem nest_eq_tree {x y : List (List K)} {a b : Addr} {P : PySem.Fin → Shared → Prop} (hu : A.units < cLine) (hx : IsNest knd s.heap x a) (hy : IsNest knd s.heap y b) (h : P (.done (.ret (.bool (decide (x = y))))) s) :
    wpAny (model prog w) A (Builtin.«tuple.__eq__» ⟨[.ref a, .ref b], []⟩) P E s := by
  have hTb := hy.typeIs
  obtain ⟨oa, xs, na, hoa, _, hda, hia⟩ := hx
  obtain ⟨ob, ys, nb, hob, _, hdb, hib⟩ := hy
  show wpAny _ _ (isInstance (.ref b) (.type "tuple") >>= _) _ _ s
  refine wpAny_bind (wpAny_isInstance hTb isSubtype_tuple_tuple ?_)
  simp only [Bool.not_true, Bool.false_eq_true, if_false]
  refine wpAny_bind (wpAny_tupleItemsOf hoa hda ?_)
  refine wpAny_bind (wpAny_tupleItemsOf hob hdb ?_)
  refine wpAny_bind ?_
  refine wpAny_forIn_list _
    (fun rest r s' => r.1 = none ∧ s' = s ∧ ∃ x' y' xs' ys', rest = List.zip xs' ys' ∧ ItemsN knd s.heap x' xs' ∧ ItemsN knd s.heap y' ys' ∧ decide (x' = y') = decide (x = y) ∧ (xs'.length == ys'.length) = (xs.size == ys.size))
    _ ?_ ?_ _ _ ⟨rfl, rfl, x, y, xs.toList, ys.toList, rfl, hia, hib, rfl, by simp⟩
  · rintro ⟨u, v⟩ rest r s' ⟨hr, rfl, x', y', xs', ys', hz, hx', hy', hdec, hlen⟩
    cases hx' with
    | nil => simp at hz
    | @cons k1 u' x'' xs'' h1 hx'' =>
      cases hy' with
      | nil => simp at hz
      | @cons k2 v' y'' ys'' h2 hy'' =>
        simp only [List.zip_cons_cons, List.cons.injEq, Prod.mk.injEq] at hz
        obtain ⟨⟨rfl, rfl⟩, rfl⟩ := hz
        refine wpAny_bind ((tupleKind knd).eqBool (x := k1) (y := k2) hu h1 h2 ?_)
        by_cases hk : k1 = k2
        · subst hk
          rw [decide_eq_true rfl]
          simp only [Bool.not_true, Bool.false_eq_true, if_false]
          refine wpAny_pure ⟨rfl, rfl, x'', y'', xs'', ys'', rfl, hx'', hy'', ?_, by simpa using hlen⟩
          rw [← hdec]
          by_cases hxy : x'' = y''
          · simp [hxy]
          · simp [hxy]
        · rw [decide_eq_false hk]
          simp only [Bool.not_false, if_true]
          have hf : decide (x = y) = false := by rw [← hdec]; simp [hk]
          rw [hf] at h
          exact wpAny_bind (wpAny_pure (wpAny_pure (wpAny_pure h)))
  · rintro ⟨r1, r2⟩ s' ⟨hr, rfl, x', y', xs', ys', hz, hx', hy', hdec, hlen⟩
    simp only at hr
    subst hr
    refine wpAny_pure ?_
    have hfin : (xs.size == ys.size) = decide (x = y) := by
      rw [← hdec, ← hlen]
      cases hx' with
      | nil =>
        cases hy' with
        | nil => simp
        | cons _ _ => simp
      | cons _ _ =>
        cases hy' with
        | nil => simp
        | cons _ _ => simp at hz
    show P (.done (.ret (.bool (xs.size == ys.size)))) s'
    rw [hfin]; exact h
theorem eqBool_nest {x y : List (List K)} {a b : Addr} {Q : Bool → Shared → Prop} (hu : A.units + 2 < cLine) (hx : IsNest knd s.heap x a) (hy : IsNest knd s.heap y b) (h : Q (decide (x = y)) s) :
    wpAny (model prog w) A (eqBool (.ref a) (.ref b)) Q E s := by
  unfold eqBool
  try with_reducible refine wpAny_holding ?_
  show wpAny _ _ (if (Value.ref a == Value.ref b) = true then _ else _) Q E s
  by_cases hab : (Value.ref a == Value.ref b) = true
  · rw [if_pos hab]
    have e : a = b := by have := eq_of_beq hab; injection this
    subst e
    obtain rfl := hx.inj hy
    exact wpAny_bind (wpAny_rule (wpAny_pure (by simpa using h)))
  · rw [if_neg hab]
    exact wpAny_bind (wpAny_richCompare_same_room (op := .Eq) hx.typeIs hy.typeIs PySem.F.slot_tuple_eq
      (wpAny_call_entry PySem.F.slot_tuple_eq hx.typeIs PySem.F.entry_tuple_eq (nest_eq_tree (tupleKind_room_in1 (knd := knd) (by omega)) hx hy ⟨_, rfl, (fun e => nomatch e), wpAny_truthy_bool h⟩) (PySem.F.args_tuple_eq_2 _ _)) (by omega))
theorem quiet_flat (n : Nat) {ks : List K} {a : Addr} {Q : Bool → Shared → Prop} (hk : IsTupleKey knd s.heap ks a) (h : Q true s) : wpAny (model prog w) A (eqIsQuiet (n + 1) (.ref a)) Q E s := by
  have hT := hk.typeIs
  obtain ⟨o, items, m, ho, _, hd, hi⟩ := hk
  unfold eqIsQuiet
  refine wpAny_bind (wpAny_specialOf hT PySem.F.slot_tuple_eq.lookup ?_)
  show wpAny _ _ (isInstance (.ref a) (.type "tuple") >>= _) _ _ s
  refine wpAny_bind (wpAny_isInstance hT isSubtype_tuple_tuple ?_)
  simp only [Bool.not_true, Bool.false_eq_true, if_false]
  refine wpAny_bind (wpAny_seqItems ho hd ?_)
  refine wpAny_bind ?_
  show wpAny _ _ (forIn items _ _) _ _ s
  rw [← Array.forIn_toList]
  refine wpAny_forIn_list _ (fun rest r s' => r.1 = none ∧ s' = s ∧ ∀ v ∈ rest, carriedByValue v = true) _ ?_ ?_ _ _ ⟨rfl, rfl, hi.byValue⟩
  · rintro v rest r s' ⟨hr, rfl, hall⟩
    rw [eqIsQuiet_byValue _ (hall v List.mem_cons_self)]
    refine wpAny_bind (wpAny_pure ?_)
    simp only [Bool.not_true, Bool.false_eq_true, if_false]
    exact wpAny_pure ⟨rfl, rfl, fun u hu' => hall u (List.mem_cons_of_mem _ hu')⟩
  · rintro ⟨r1, r2⟩ s' ⟨hr, rfl, _⟩
    simp only at hr
    subst hr
    exact wpAny_pure h
theorem quiet_nest {ks : List (List K)} {a : Addr} {Q : Bool → Shared → Prop} (hk : IsNest knd s.heap ks a) (h : Q true s) : wpAny (model prog w) A (eqIsQuiet 8 (.ref a)) Q E s := by
  have hT := hk.typeIs
  obtain ⟨o, items, n, ho, _, hd, hi⟩ := hk
  unfold eqIsQuiet
  refine wpAny_bind (wpAny_specialOf hT PySem.F.slot_tuple_eq.lookup ?_)
  show wpAny _ _ (isInstance (.ref a) (.type "tuple") >>= _) _ _ s
  refine wpAny_bind (wpAny_isInstance hT isSubtype_tuple_tuple ?_)
  simp only [Bool.not_true, Bool.false_eq_true, if_false]
  refine wpAny_bind (wpAny_seqItems ho hd ?_)
  refine wpAny_bind ?_
  show wpAny _ _ (forIn items _ _) _ _ s
  rw [← Array.forIn_toList]
  refine wpAny_forIn_list _ (fun rest r s' => r.1 = none ∧ s' = s ∧ ∃ left, ItemsN knd s.heap left rest) _ ?_ ?_ _ _ ⟨rfl, rfl, ks, hi⟩
  · rintro v rest r s' ⟨hr, rfl, left, hl⟩
    cases hl with
    | @cons k b ks' _ h1 hl' =>
      refine wpAny_bind (quiet_flat 6 h1 ?_)
      simp only [Bool.not_true, Bool.false_eq_true, if_false]
      exact wpAny_pure ⟨rfl, rfl, ks', hl'⟩
  · rintro ⟨r1, r2⟩ s' ⟨hr, rfl, _⟩
    simp only at hr
    subst hr
    exact wpAny_pure h
end
def nestKind {prog : Program} {w : World} {K : Type} [DecidableEq K] (knd : KeyKind prog w K) : HeapKind prog w (List (List K)) where
  is := IsNest knd
  hash := nestHash knd
  draws := fun ks => nestDraws ks + 1
  room := fun A => A.units + 2 < cLine
  inj := fun hx hy => hx.inj hy
  keeps := fun x ho hd hs => x.keeps ho hd hs
  pyHash := fun hu hk h => pyHash_nest hu hk h
  eqBool := fun hu hx hy h => eqBool_nest hu hx hy h
  quiet := fun hk h => quiet_nest hk h
theorem nest_room {prog : Program} {w : World} {K : Type} [DecidableEq K] {knd : KeyKind prog w K} {A : Around} (hu : A.units + 3 < cLine) : (nestKind knd).room A.in1 := by
  show A.in1.units + 2 < cLine
  simp
  omega
end L2
set_option Elab.async false
set_option linter.all false
set_option maxRecDepth 100000
set_option maxHeartbeats 4000000
namespace L2
open PySem PySem.Spec PyProof.Rows
abbrev K2 := List (List Key)
def NK (H : Hp) (b : Addr) (ks : K2) : Prop := ∃ cs : List Addr, H b = some (.tup (cs.map V.ref)) ∧ Paired (fun (c : Addr) (k : List Key) => H c = some (.tup (k.map kV))) cs ks
theorem NK.ts {H H' : Hp} {b : Addr} {ks : K2} (h : NK H b ks) (g : ∀ b xs, H b = some (.tup xs) → H' b = some (.tup xs)) : NK H' b ks := by
  obtain ⟨cs, h1, h2⟩ := h
  exact ⟨cs, g _ _ h1, Paired.mapP h2 fun _ _ z => g _ _ z⟩
theorem NK.two {H : Hp} {b c d : Addr} {k l : List Key} (h : H b = some (.tup [.ref c, .ref d])) (h1 : H c = some (.tup (k.map kV))) (h2 : H d = some (.tup (l.map kV))) : NK H b [k, l] := ⟨[c, d], h, .cons h1 (.cons h2 .nil)⟩
section
variable {P : Program} {w : World} {H : Hp} {h : Heap} {a b : Addr}
theorem items_nest {cs : List Addr} {its : List Value} {ks : K2} (ok : HOk P w H h) (r : Vals (cs.map V.ref) its) (p : Paired (fun (c : Addr) (k : List Key) => H c = some (.tup (k.map kV))) cs ks) : ItemsN (mixKind P w) h ks its := by
  induction p generalizing its with
  | nil => cases r; exact .nil
  | @cons c k cs ks h1 _ ih =>
    rw [List.map_cons] at r
    cases r with
    | cons r1 r2 =>
      cases r1
      exact .cons (key_of ok h1) (ih r2)
theorem key_nest {ks : K2} (ok : HOk P w H h) (e : NK H b ks) : (nestKind (mixKind P w)).is h ks b := by
  obtain ⟨cs, e1, e2⟩ := e
  obtain ⟨_, its, r, o, h1, h2, n, h3⟩ := (show ObjOk P w H h b (.tup (cs.map V.ref)) from ok b _ e1)
  exact ⟨o, its.toArray, n, h1, h2, h3, by simpa using items_nest ok r e2⟩
end
abbrev N3 := K2 × Addr × V
def KNp : List N3 → List (K2 × Addr × Value) → Prop := Paired fun p q => p.1 = q.1 ∧ p.2.1 = q.2.1 ∧ RelV p.2.2 q.2.2
def nD (P : Program) (w : World) (a : Addr) (kvs : List N3) : HO := .ext fun h => (a == sysModules) = false ∧ kvs.length ≤ sizeLine ∧ (kvs.map (·.1)).Nodup ∧ ∃ xs, KNp kvs xs ∧ ∃ o es ep, h.get? a = some o ∧ o.ExactDict ∧ o.data = .dict es ep ∧ es.toList = xs.map (entryOfKey (nestKind (mixKind P w)))
def KN (H : Hp) (kvs : List N3) : Prop := ∀ p, p ∈ kvs → NK H p.2.1 p.1
theorem KN.ts {H H' : Hp} {kvs : List N3} (h : KN H kvs) (g : ∀ b xs, H b = some (.tup xs) → H' b = some (.tup xs)) : KN H' kvs := fun p hp => (h p hp).ts g
def valN (kvs : List N3) (k : K2) : Option V := (kvs.find? fun kv => decide (kv.1 = k)).map (·.2.2)
def putN (kvs : List N3) (k : K2) (b : Addr) (v : V) : List N3 := if (valN kvs k).isSome = true then kvs.map (fun kv => if kv.1 = k then (kv.1, kv.2.1, v) else kv) else kvs ++ [(k, b, v)]
theorem valN_pos {p : N3} {r : List N3} {k : K2} (e : p.1 = k) : valN (p :: r) k = some p.2.2 := by simp [valN, List.find?_cons, e]
theorem valN_neg {p : N3} {r : List N3} {k : K2} (e : ¬ p.1 = k) : valN (p :: r) k = valN r k := by simp [valN, List.find?_cons, e]
theorem valN_mem {kvs : List N3} {k : K2} : (valN kvs k).isSome = true ↔ k ∈ kvs.map (·.1) := by
  induction kvs with
  | nil => simp [valN]
  | cons p r ih =>
    by_cases e : p.1 = k
    · rw [valN_pos e]; simp [e]
    · rw [valN_neg e, ih, List.map_cons, List.mem_cons]
      exact ⟨.inr, fun h => h.elim (fun z => absurd z.symm e) id⟩
theorem putN_len (kvs : List N3) (k : K2) (b : Addr) (v : V) : (putN kvs k b v).length ≤ kvs.length + 1 := by
  unfold putN
  split
  · rw [List.length_map]; omega
  · simp
theorem putN_keys (kvs : List N3) (k : K2) (b : Addr) (v : V) : (putN kvs k b v).map (·.1) = if (valN kvs k).isSome = true then kvs.map (·.1) else kvs.map (·.1) ++ [k] := by
  unfold putN
  split
  · rw [List.map_map]
    refine List.map_congr_left fun kv _ => ?_
    show (if kv.1 = k then (kv.1, kv.2.1, v) else kv).1 = kv.1
    split <;> rfl
  · simp
theorem putN_nodup {kvs : List N3} {k : K2} {b : Addr} {v : V} (h : (kvs.map (·.1)).Nodup) : ((putN kvs k b v).map (·.1)).Nodup := by
  rw [putN_keys]
  split
  · exact h
  · rename_i n
    refine List.nodup_append.mpr ⟨h, List.pairwise_singleton _ _, fun x hx y hy e => ?_⟩
    rw [List.mem_singleton.mp hy] at e
    subst e
    exact n (valN_mem.mpr hx)
theorem KN.put {H : Hp} {kvs : List N3} {k : K2} {b : Addr} {v : V} (h : KN H kvs) (hb : NK H b k) : KN H (putN kvs k b v) := by
  unfold putN
  split
  · intro p hp
    obtain ⟨q, hq, e⟩ := List.mem_map.mp hp
    have := h q hq
    rw [← e]
    split
    · exact this
    · exact this
  · intro p hp
    rcases List.mem_append.mp hp with hp | hp
    · exact h p hp
    · rw [List.mem_singleton.mp hp]; exact hb
theorem KNp.val {kvs : List N3} {xs : List (K2 × Addr × Value)} (r : KNp kvs xs) (k : K2) : RelO (valN kvs k) ((atKey xs k).map (·.2)) := by
  unfold KNp at r
  induction r with
  | nil => exact True.intro
  | @cons p q ps qs h t ih =>
    obtain ⟨h1, _, h2⟩ := h
    by_cases e : p.1 = k
    · have e' : q.1 = k := h1.symm.trans e
      have b : atKey (q :: qs) k = some q.2 := by simp [atKey, List.find?_cons, e']
      rw [valN_pos e, b]; exact h2
    · have e' : ¬ q.1 = k := fun z => e (h1.trans z)
      have b : atKey (q :: qs) k = atKey qs k := by simp [atKey, List.find?_cons, e']
      rw [valN_neg e, b]; exact ih
theorem KNp.put {kvs : List N3} {xs : List (K2 × Addr × Value)} (r : KNp kvs xs) (k : K2) {b : Addr} {y : V} {u : Value} (ry : RelV y u) : KNp (putN kvs k b y) (storedH xs k b u) := by
  have e : (valN kvs k).isSome = (atKey xs k).isSome := by rw [(r.val k).isSome_eq, Option.isSome_map]
  unfold putN storedH
  rw [e]
  by_cases q : (atKey xs k).isSome = true
  · rw [if_pos q, if_pos q]
    unfold KNp at *
    clear e q
    induction r with
    | nil => exact .nil
    | @cons p q ps qs h t ih =>
      rw [List.map_cons, List.map_cons]
      refine .cons ?_ ih
      obtain ⟨h1, h2, h3⟩ := h
      unfold putAt
      by_cases e : p.1 = k
      · rw [if_pos e, if_pos (h1.symm.trans e)]; exact ⟨h1, h2, ry⟩
      · rw [if_neg e, if_neg (fun z => e (h1.trans z))]; exact ⟨h1, h2, h3⟩
  · rw [if_neg q, if_neg q]; exact Paired.snoc r ⟨rfl, rfl, ry⟩
theorem KNp.keys {kvs : List N3} {xs : List (K2 × Addr × Value)} (r : KNp kvs xs) : xs.map (·.1) = kvs.map (·.1) ∧ xs.map (fun q => q.2.1) = kvs.map (fun p => p.2.1) := by
  unfold KNp at r
  induction r with
  | nil => exact ⟨rfl, rfl⟩
  | cons h _ ih => rw [List.map_cons, List.map_cons, List.map_cons, List.map_cons, ih.1, ih.2, h.1, h.2.1]; exact ⟨rfl, rfl⟩
section
variable {P : Program} {w : World} {H : Hp} {h : Heap} {a : Addr} {kvs : List N3}
theorem nd_rd (ok : HOk P w H h) (e : Rd H a (nD P w a kvs)) (kn : KN H kvs) : kvs.length ≤ sizeLine ∧ (a == sysModules) = false ∧ ∃ xs, KNp kvs xs ∧ h.DictOfH (nestKind (mixKind P w)) a xs := by
  obtain ⟨⟨hd, z, nd, xs, r, o, es, ep, h1, h2, h3, h4⟩, _⟩ := (show ObjOk P w H h a (nD P w a kvs) from e.ok ok)
  refine ⟨z, hd, xs, r, o, es, ep, h1, h2, h3, h4, fun x hx => ?_, by rw [r.keys.1]; exact nd⟩
  have all : ∀ {l : List N3} {m : List (K2 × Addr × Value)}, KNp l m → (∀ p, p ∈ l → NK H p.2.1 p.1) → ∀ x ∈ m, (nestKind (mixKind P w)).is h x.1 x.2.1 := by
    intro l m q
    unfold KNp at q
    induction q with
    | nil => intro _ x hx; exact nomatch hx
    | @cons p q ps qs hq t ih =>
      intro hl x hx
      rcases List.mem_cons.mp hx with e | hx
      · subst e
        rw [← hq.1, ← hq.2.1]
        exact key_nest ok (hl p (by simp))
      · exact ih (fun p hp => hl p (List.mem_cons_of_mem _ hp)) x hx
  exact all r kn x hx
theorem nd_ok {H' : Hp} {h' : Heap} {xs : List (K2 × Addr × Value)} (z : kvs.length ≤ sizeLine) (hd : (a == sysModules) = false) (nd : (kvs.map (·.1)).Nodup) (r : KNp kvs xs) (dd : h'.DictOfH (nestKind (mixKind P w)) a xs) : ObjOk P w H' h' a (nD P w a kvs) := by
  obtain ⟨o, es, ep, h1, h2, h3, h4, _⟩ := dd
  refine ⟨⟨hd, z, nd, xs, r, o, es, ep, h1, h2, h3, h4⟩, ⟨o, h1⟩, ?_⟩
  rintro k1 k2 ⟨hd, z, nd, xs, r, o, es, ep, h1, h2, h3, h4⟩ k
  exact ⟨hd, z, nd, xs, r, o, es, ep, k _ h1, h2, h3, h4⟩
end
def tNNotIn (P : Program) (w : World) (ty td : TE) : TE := fun σ H Q => ty σ H fun y H1 => td σ H1 fun x H2 => ∃ a kvs b k, x = .ref a ∧ y = .ref b ∧ Rd H2 a (nD P w a kvs) ∧ KN H2 kvs ∧ NK H2 b k ∧ Q (.bl (!(valN kvs k).isSome)) H2
def sNPut (P : Program) (w : World) (td ty tv : TE) : TS := fun D σ H => tv σ H fun v H1 => td σ H1 fun x H2 => ty σ H2 fun y H3 => ∃ a kvs b k, x = .ref a ∧ y = .ref b ∧ H3 a = some (nD P w a kvs) ∧ KN H3 kvs ∧ NK H3 b k ∧ kvs.length < sizeLine ∧ D.nx σ (upd H3 a (nD P w a (putN kvs k b v)))
def tNNew (P : Program) (w : World) : TE := fun _ H Q => ∀ p, H p = none → Q (.ref p) (upd H p (nD P w p []))
section
variable {X : Cx} {P : Program} {w : World} {o i e value : Expr} {pos pos' tpos : Pos} {td ty tv : TE}
theorem pe_nnew (hP : X.prog = P) (hw : X.w = w) : PE X (.Dict [] [] pos) (tNNew P w) := fun pins s σ H Q I h => by
  subst hP hw
  exact wpAny_Dict_empty ⟨.ref s.heap.objs.size, _, I.laid (a := s.heap.objs.size) (o := nD X.prog X.w s.heap.objs.size []) (t' := s.toks) (fun _ _ q => Heap.get?_push_of_some _ q) (Nat.le_refl _)
    (nd_ok (Nat.zero_le _) (beq_eq_false_iff_ne.mpr (Ne.symm (Nat.ne_of_lt I.big))) List.nodup_nil .nil (Heap.DictOfH.new s.heap)), rfl, h _ (I.hok.fresh (Nat.le_refl _))⟩
theorem pc_nnotin (hP : X.prog = P) (hw : X.w = w) (hu : X.A.units + 64 < cLine) (hi : PE X i ty) (ho : PE X o td) : PC X .NotIn i o (tNNotIn P w ty td) := by
  subst hP hw
  intro pins s σ H Q I h
  refine thn (hi pins s σ H _ I h) fun iv s1 ⟨y, H1, I1, ry, q1⟩ => thn (ho pins s1 σ H1 _ I1 q1) fun u s2 ⟨x, H2, I2, rx, a, kvs, b, k, ex, ey, e, kn, nk, q2⟩ => ?_
  subst ex ey
  obtain rfl : u = Value.ref a := rx
  obtain rfl : iv = Value.ref b := ry
  obtain ⟨z, hd, xs, rel, dd⟩ := nd_rd I2.hok e kn
  refine wpAny_notIn_heap (nest_room (by omega)) (key_nest I2.hok nk) hd dd ?_
  have q := (rel.val k).isSome_eq
  rw [Option.isSome_map] at q
  rw [← q]
  exact ⟨.bl _, H2, I2.tok _, rfl, q2⟩
theorem ps_nput (hP : X.prog = P) (hw : X.w = w) (hu : X.A.units + 64 < cLine) (ho : PE X o td) (hi : PE X i ty) (hv : PE X value tv) (hs : swapsWith value (some (.Subscript o i pos')) pos.line X.env = pure false) :
    PS X (.Assign [.Subscript o i pos'] value pos) (sNPut P w td ty tv) := by
  subst hP hw
  intro pins s σ H D I h
  refine wpAny_Assign_Subscript (thn (hv pins s σ H _ I h) fun r s1 ⟨v, H1, I1, rv, q1⟩ => thn (ho pins s1 σ H1 _ I1 q1) fun u s2 ⟨x, H2, I2, rx, q2⟩ => thn (hi pins s2 σ H2 _ I2 q2) fun iv s3 ⟨y, H3, I3, ry, a, kvs, b, k, ex, ey, e, kn, nk, l, q3⟩ => ?_) hs
  subst ex ey
  obtain rfl : u = Value.ref a := rx
  obtain rfl : iv = Value.ref b := ry
  obtain ⟨z, hd, xs, rel, dd⟩ := nd_rd I3.hok (.inl e) kn
  have hz : xs.length ≤ sizeLine := by rw [← Paired.length rel]; exact z
  have hl : (putN kvs k b v).length ≤ sizeLine := by have := putN_len kvs k b v; omega
  obtain ⟨⟨_, _, nd, _⟩, _⟩ := I3.hok a _ e
  refine wpAny_setItem_heap (hsz := hz) (nest_room (by omega)) (key_nest I3.hok nk) dd fun h' dd' hs => ⟨σ, _, ?_, q3⟩
  have he : ∃ q, h'.get? a = some q := let ⟨q, _, _, hq, _⟩ := dd'; ⟨q, hq⟩
  exact d_write I3 (by rw [e]; exact True.intro) hs he (nd_ok hl hd (putN_nodup nd) (rel.put k rv) dd')
end
end L2
set_option Elab.async false
set_option linter.all false
set_option maxRecDepth 100000
set_option maxHeartbeats 4000000
namespace L2
open PySem PySem.Spec PyProof.Rows
def Itf (d : Addr) (o : Obj) (u : HO) (bs : List Addr) : It :=
  ⟨fun i H => i < bs.length ∧ H d = some (.frz o u), fun i H x H' => H' = H ∧ ∃ b, bs[i]? = some b ∧ x = .ref b, fun i H => bs.length ≤ i ∧ H d = some (.frz o u)⟩
theorem turn_dictF {P : Program} {w : World} {K : PySem.W.Frag} {tg : Expr} {d it : Addr} {o : Obj} {u : HO} {es : Array DictEntry} {ep : Nat} {bs : List Addr} (hd : o.data = .dict es ep) (hb : es.toList.map (·.key) = bs.map Value.ref) :
    Turn P w K tg (Itf d o u bs) [it] it (fun i h => h.IsKeyIter it d i es.size ep) where
  mem := by simp
  obj := fun i h st b z => by
    rw [List.mem_singleton.mp z]
    obtain ⟨u, e, _, c⟩ := st
    exact ⟨u, e, fun v y => by rw [c] at y; cases y⟩
  keep := fun i h h' st k => by
    obtain ⟨u, e, c⟩ := st
    exact ⟨u, k it (by simp) u e, c⟩
  item := by
    intro X hP hw hK hc i pins s σ H E I hf st hg
    subst hP hw hK
    obtain ⟨f0, f1, f2, f3, f4, f5⟩ := hf it (by simp)
    have lb : es.size = bs.length := by
      have := congrArg List.length hb
      simpa using this
    have hi : i < es.size := by rw [lb]; exact hg.1
    have od := (I.hok d _ hg.2).1
    refine kiter_item st od hd hi fun h' st' sb => ?_
    have I1 : Inv X pins σ H { s with heap := h' } := I.turned (t' := s.toks) (fun b o hb e => (sb.2 b hb).trans e) f0 f1 f3 f4 f5
    have hib : i < bs.length := hg.1
    have ek : es[i].key = .ref bs[i] := by
      have z := congrArg (fun l => l[i]?) hb
      simp only [List.getElem?_map, Array.getElem?_toList, Array.getElem?_eq_getElem hi, List.getElem?_eq_getElem hib, Option.map_some, Option.some.injEq] at z
      exact z
    obtain ⟨u, e, c, dd⟩ := id st'
    exact ⟨_, rfl, go_of (s := { s with heap := h' }) e c dd (by decide) ⟨.ref bs[i], H, I1, ek, ⟨rfl, bs[i], List.getElem?_eq_getElem hib, rfl⟩, st', fun b z => (hf b z).1⟩⟩
  done := by
    intro X hP hw hK hc i pins s σ H E I hf st hg
    subst hP hw hK
    obtain ⟨f0, f1, f2, f3, f4, f5⟩ := hf it (by simp)
    have lb : es.size = bs.length := by
      have := congrArg List.length hb
      simpa using this
    exact kiter_end (I.ok.hd hc) st (I.hok d _ hg.2).1 hd (by rw [lb]; exact hg.1) fun h' eb => ⟨rfl, I.turned (t' := s.toks) (fun b o z e => eb b o z e) f0 f1 f3 f4 f5⟩
  self := fun A i s Q E st h => wpAny_pyIter_keyiter st h
section
variable {X : Cx} {tg : Expr} {pins : List (Addr × Obj)} {σ : St} {H : Hp} {s : Shared} {P : Program} {w : World}
theorem Inv.freezeN {d : Addr} {o : Obj} {kvs : List N3} (I : Inv X pins σ H s) (e : H d = some (nD P w d kvs)) (ho : s.heap.get? d = some o) : Inv X pins σ (upd H d (.frz o (nD P w d kvs))) s := by
  have ne : ∀ b u, H b = some u → u ≠ nD P w d kvs → b ≠ d := fun b u q n z => by rw [z, e] at q; cases q; exact n rfl
  have J := I.step (g' := s.gens) (d' := s.drawn) (t' := s.toks) (h' := s.heap) (H' := upd H d (.frz o (nD P w d kvs))) (ch := []) (fun _ z => nomatch z) (fun b u _ _ _ q _ => q) (fun b u _ _ _ q _ => ⟨u.slots, q⟩) (fun b u _ _ n => by rw [upd_ne fun z => by rw [z, e] at n; cases n]; exact n)
    (fun b u _ q => ⟨u, q⟩) (fun b xs q => by rw [upd_ne (ne b _ q fun z => nomatch z)]; exact q) (fun b u v q => by rw [upd_ne (ne b _ q fun z => nomatch z)]; exact q) (fun b ps q => ⟨#[], by rw [upd_ne (ne b _ q fun z => nomatch z), q]; simp⟩) (fun m hm => hm) (fun b u q => ?_) I.bare
  · exact J
  · by_cases z : b = d
    · subst z
      rw [upd_same] at q
      cases q
      refine ⟨ho, ((I.hok b _ e).stay (fun c v _ r => r) (fun c r => ?_) fun c xs r => ?_)⟩
      · rw [upd_ne (ne c _ r fun z => nomatch z)]; exact r
      · rw [upd_ne (ne c _ r fun z => nomatch z)]; exact r
    · rw [upd_ne z] at q
      refine (I.hok b u q).stay (fun c v _ r => r) (fun c r => ?_) fun c xs r => ?_
      · rw [upd_ne (ne c _ r fun z => nomatch z)]; exact r
      · rw [upd_ne (ne c _ r fun z => nomatch z)]; exact r
def iDictN (P : Program) (w : World) (td : TE) : TI := fun σ H R => td σ H fun x H1 => ∃ d kvs, x = .ref d ∧ H1 d = some (nD P w d kvs) ∧ ∀ o, R (Itf d o (nD P w d kvs) (kvs.map fun p => p.2.1)) (upd H1 d (.frz o (nD P w d kvs)))
theorem pi_dictN {l : Expr} {tl : TE} (hP : X.prog = P) (hw : X.w = w) (hl : PE X l tl) : PI X tg l (iDictN P w tl) := by
  subst hP hw
  intro pins s σ H R I h
  refine thn (hl pins s σ H _ I h) fun v s1 ⟨x, H1, I1, r1, q1⟩ => ?_
  obtain ⟨d, kvs, rfl, e, q⟩ := q1
  cases r1
  obtain ⟨⟨hd, z, nd, xs, rel, o, es, ep, ho, hx, hdat, he⟩, _⟩ := I1.hok d _ e
  have hk : es.toList.map (·.key) = (kvs.map fun p => p.2.1).map Value.ref := by
    rw [he, List.map_map, ← rel.keys.2, List.map_map]
    rfl
  have F := I1.freezeN e ho
  have nw : ∀ b o', s1.heap.get? b = some o' → (s1.heap.push { cls := .type "dict_keyiterator", data := .fields #[.ref d, .int 0 0, .int es.size 0, .int ep 0] }).get? b = some o' := fun b o' e' => Heap.get?_push_of_some _ e'
  refine kiter_new hd ho hx.1 hdat ⟨s1.heap.objs.size, [s1.heap.objs.size], _, Itf d o (nD X.prog X.w d kvs) (kvs.map fun p => p.2.1), _, rfl, F.kept (t' := s1.toks) nw, turn_dictF hdat hk, ⟨_, Heap.get?_push_size _ rfl, rfl, rfl⟩, fun b hb => ?_, q o⟩
  rw [List.mem_singleton.mp hb]
  exact F.fpOk (Nat.le_refl _) (F.hok.fresh (Nat.le_refl _))
end
theorem comp_dictF {d D : Addr} {o : Obj} {u : HO} {bs : List Addr} {g : TG} {ti : TT} {te : TE} {σ' : St} {H : Hp} {Q : VK} (Pv : Nat → List V → Hp → Prop) (h0 : Pv 0 [] (upd H D (.lst []))) (hl : ∀ i ys H, Pv i ys H → H d = some (.frz o u))
    (hs : ∀ i ys H b, bs[i]? = some b → Pv i ys H → g (.ref b) σ' H fun σ4 H4 => ti σ4 H4 fun b H5 => if b = true then te σ4 H5 fun y H6 => CPut bs.length Pv D i y H6 else CSkip bs.length Pv i H5)
    (hd : ∀ ys H, Pv bs.length ys H → Q (.ref D) H) : CompW (Itf d o u bs) D g ti te σ' H Q := by
  refine comp_by bs.length Pv h0 (fun i ys H hi p => ⟨hi, hl i ys H p⟩) (fun ys H p => ⟨Nat.le_refl _, hl _ ys H p⟩) (fun i ys H x H3 hi p y => ?_) hd
  obtain ⟨e, b, hb, ex⟩ := y
  subst e ex
  exact hs i ys _ b hb p
end L2
set_option Elab.async false
set_option linter.all false
set_option maxRecDepth 100000
set_option maxHeartbeats 4000000
namespace L2
open PySem PySem.Spec PyProof.Rows
def gallop' : Bool → Keyed → Array Keyed → Nat → Nat → Nat → StateT SortSt Sem (Option Nat) := sortPriv% PySem.Builtin.gallop
def mergeLo' : Array Keyed → Array Keyed → StateT SortSt Sem (Array Keyed) := sortPriv% PySem.Builtin.mergeLo
def mergeHi' : Array Keyed → Array Keyed → StateT SortSt Sem (Array Keyed) := sortPriv% PySem.Builtin.mergeHi
section
variable {prog : Program} {w : World} {A : Around} {E : Value → Shared → Prop} {s : Shared} {a₀ : Array Keyed} {κ : SortKind}
def QL (prog : Program) (w : World) (A : Around) (E : Value → Shared → Prop) (s : Shared) (κ : SortKind) (a₀ : Array Keyed) : Prop :=
  ∀ (x y : Keyed) (st : SortSt) (Q : Option Bool → SortSt → Prop), x ∈ a₀ → y ∈ a₀ → kindOf st = κ → (∀ b, Q (some b) st) → wpS (model prog w) A E s (lt' x y) Q st
theorem el_at {arr : Array Keyed} {i : Nat} {st : SortSt} {Q : Keyed → SortSt → Prop} (h : i < arr.size) (q : Q arr[i] st) : wpS (model prog w) A E s (elem' arr i) Q st := by
  rw [elem'_eq, Array.getElem?_eq_getElem h]
  exact wpS_pure q
theorem gallop_at (hq : QL prog w A E s κ a₀) {left : Bool} {key : Keyed} {arr : Array Keyed} {base n hint : Nat} {st : SortSt} {Q : Option Nat → SortSt → Prop} (hk : key ∈ a₀) (ha : ∀ x, x ∈ arr → x ∈ a₀) (hb : base + n ≤ arr.size) (hh : hint < n) (hκ : kindOf st = κ) (h : ∀ k, k ≤ n → Q (some k) st) :
    wpS (model prog w) A E s (gallop' left key arr base n hint) Q st := by
  have bey : ∀ (i : Nat) (Q : Option Bool → SortSt → Prop), i < n → (∀ b, Q (some b) st) → wpS (model prog w) A E s ((do let x ← elem' arr (base + i); if left then lt' x key else return (← lt' key x).map (!·)) : StateT SortSt Sem (Option Bool)) Q st := by
    intro i Q hi hQ
    refine wpS_bind (el_at (by omega) ?_)
    have hx : arr[base + i] ∈ a₀ := ha _ (Array.getElem_mem _)
    cases left with
    | true => exact hq _ _ _ _ hx hk hκ hQ
    | false => exact wpS_bind (hq _ _ _ _ hk hx hκ fun b => wpS_pure (hQ _))
  refine wpS_bind (bey hint _ hh fun right => ?_)
  cases right with
  | true =>
    show wpS _ _ _ _ (_ >>= _) _ _
    refine wpS_bind (wpS_mono (wpS_forRange (I := fun _ (c : Option (Option Nat) × Nat × Nat) st' => st = st' ∧ c.1 = none) (Q := fun c st' => st = st' ∧ c.1 = none) ?_ (fun _ _ z => z) ⟨rfl, rfl⟩) ?_)
    · rintro x ⟨r, lastofs, ofs⟩ st' _ _ ⟨rfl, e⟩
      dsimp only at e ⊢
      by_cases c : ofs ≥ n - hint
      · rw [if_pos c]
        exact wpS_pure ⟨rfl, rfl⟩
      · rw [if_neg c]
        refine wpS_bind (bey (hint + ofs) _ (by omega) fun b => ?_)
        cases b with
        | true => exact wpS_pure ⟨rfl, rfl⟩
        | false => exact wpS_pure ⟨rfl, rfl⟩
    · rintro ⟨r, lastofs, ofs⟩ st' ⟨rfl, e⟩
      dsimp only at e ⊢
      subst e
      show wpS _ _ _ _ (_ >>= _) _ _
      refine wpS_bind (wpS_mono (wpS_forRange (I := fun _ (c : Option (Option Nat) × Nat × Nat) st' => st = st' ∧ c.1 = none ∧ c.2.2 ≤ n) (Q := fun c st' => st = st' ∧ c.1 = none ∧ c.2.2 ≤ n) ?_ (fun _ _ z => z) ⟨rfl, rfl, (by show hint + min ofs (n - hint) ≤ n; omega)⟩) ?_)
      · rintro x ⟨r, lo, hi⟩ st' _ _ ⟨rfl, e, hhi⟩
        dsimp only at e hhi ⊢
        by_cases c : lo ≥ hi
        · rw [if_pos c]
          exact wpS_pure ⟨rfl, rfl, hhi⟩
        · rw [if_neg c]
          refine wpS_bind (bey (lo + (hi - lo) / 2) _ (by omega) fun b => ?_)
          cases b with
          | true => exact wpS_pure ⟨rfl, rfl, hhi⟩
          | false => exact wpS_pure ⟨rfl, rfl, (by show lo + (hi - lo) / 2 ≤ n; omega)⟩
      · rintro ⟨r, lo, hi⟩ st' ⟨rfl, e, hhi⟩
        dsimp only at e hhi ⊢
        subst e
        exact wpS_pure (h hi hhi)
  | false =>
    show wpS _ _ _ _ (_ >>= _) _ _
    refine wpS_bind (wpS_mono (wpS_forRange (I := fun _ (c : Option (Option Nat) × Nat × Nat) st' => st = st' ∧ c.1 = none) (Q := fun c st' => st = st' ∧ c.1 = none) ?_ (fun _ _ z => z) ⟨rfl, rfl⟩) ?_)
    · rintro x ⟨r, lastofs, ofs⟩ st' _ _ ⟨rfl, e⟩
      dsimp only at e ⊢
      by_cases c : ofs ≥ hint + 1
      · rw [if_pos c]
        exact wpS_pure ⟨rfl, rfl⟩
      · rw [if_neg c]
        refine wpS_bind (bey (hint - ofs) _ (by omega) fun b => ?_)
        cases b with
        | true => exact wpS_pure ⟨rfl, rfl⟩
        | false => exact wpS_pure ⟨rfl, rfl⟩
    · rintro ⟨r, lastofs, ofs⟩ st' ⟨rfl, e⟩
      dsimp only at e ⊢
      subst e
      show wpS _ _ _ _ (_ >>= _) _ _
      refine wpS_bind (wpS_mono (wpS_forRange (I := fun _ (c : Option (Option Nat) × Nat × Nat) st' => st = st' ∧ c.1 = none ∧ c.2.2 ≤ n) (Q := fun c st' => st = st' ∧ c.1 = none ∧ c.2.2 ≤ n) ?_ (fun _ _ z => z) ⟨rfl, rfl, (by show hint - lastofs ≤ n; omega)⟩) ?_)
      · rintro x ⟨r, lo, hi⟩ st' _ _ ⟨rfl, e, hhi⟩
        dsimp only at e hhi ⊢
        by_cases c : lo ≥ hi
        · rw [if_pos c]
          exact wpS_pure ⟨rfl, rfl, hhi⟩
        · rw [if_neg c]
          refine wpS_bind (bey (lo + (hi - lo) / 2) _ (by omega) fun b => ?_)
          cases b with
          | true => exact wpS_pure ⟨rfl, rfl, hhi⟩
          | false => exact wpS_pure ⟨rfl, rfl, (by show lo + (hi - lo) / 2 ≤ n; omega)⟩
      · rintro ⟨r, lo, hi⟩ st' ⟨rfl, e, hhi⟩
        dsimp only at e hhi ⊢
        subst e
        exact wpS_pure (h hi hhi)
end
end L2
set_option Elab.async false
set_option linter.all false
set_option maxRecDepth 100000
set_option maxHeartbeats 4000000
namespace L2
open PySem PySem.Spec PyProof.Rows
section
variable {prog : Program} {w : World} {A : Around} {E : Value → Shared → Prop} {s : Shared} {a₀ : Array Keyed} {κ : SortKind}
def Prm (a b out : Array Keyed) (ia ib : Nat) : Prop := (out.toList ++ (a.toList.drop ia ++ b.toList.drop ib)).Perm (a.toList ++ b.toList) ∧ ia ≤ a.size ∧ ib ≤ b.size
theorem ext_list (a : Array Keyed) (i j : Nat) : (a.extract i j).toList = (a.toList.drop i).take (j - i) := by simp
theorem ext_all (a : Array Keyed) (i : Nat) : (a.extract i).toList = a.toList.drop i := by
  rw [ext_list]
  exact List.take_of_length_le (by rw [List.length_drop, Array.length_toList]; omega)
theorem ext_k (a : Array Keyed) (i k : Nat) : (a.extract i (i + k)).toList = (a.toList.drop i).take k := by rw [ext_list, Nat.add_sub_cancel_left]
theorem prm_done {a b out : Array Keyed} {ia ib : Nat} (h : Prm a b out ia ib) : (out ++ a.extract ia ++ b.extract ib).toList.Perm (a.toList ++ b.toList) := by
  rw [Array.toList_append, Array.toList_append, ext_all, ext_all, List.append_assoc]
  exact h.1
theorem prm_last {a b out : Array Keyed} {ia ib : Nat} (h : Prm a b out ia ib) : (out ++ b.extract ib ++ a.extract ia).toList.Perm (a.toList ++ b.toList) := by
  rw [Array.toList_append, Array.toList_append, ext_all, ext_all, List.append_assoc]
  exact (List.Perm.append_left _ List.perm_append_comm).trans h.1
theorem prm_b {a b out : Array Keyed} {ia ib : Nat} (h : Prm a b out ia ib) (k : Nat) (hk : ib + k ≤ b.size) : Prm a b (out ++ b.extract ib (ib + k)) ia (ib + k) := by
  refine ⟨?_, h.2.1, hk⟩
  rw [Array.toList_append, ext_k, List.append_assoc]
  refine (List.Perm.append_left _ ?_).trans h.1
  have e2 : b.toList.drop ib = (b.toList.drop ib).take k ++ b.toList.drop (ib + k) := by rw [← List.drop_drop, List.take_append_drop]
  generalize b.toList.drop (ib + k) = t at *
  generalize (b.toList.drop ib).take k = u at *
  rw [e2, ← List.append_assoc, ← List.append_assoc]
  exact List.perm_append_comm.append_right _
theorem prm_a {a b out : Array Keyed} {ia ib : Nat} (h : Prm a b out ia ib) (k : Nat) (hk : ia + k ≤ a.size) : Prm a b (out ++ a.extract ia (ia + k)) (ia + k) ib := by
  refine ⟨?_, hk, h.2.2⟩
  rw [Array.toList_append, ext_k, List.append_assoc, ← List.append_assoc ((a.toList.drop ia).take k), ← List.drop_drop, List.take_append_drop]
  exact h.1
theorem push_ext (out a : Array Keyed) (i : Nat) (h : i < a.size) : out.push a[i] = out ++ a.extract i (i + 1) := by
  apply Array.toList_inj.mp
  rw [Array.toList_append, ext_k, Array.toList_push]
  congr 1
  have h' : i < a.toList.length := by simpa using h
  rw [List.drop_eq_getElem_cons h']
  simp
theorem prm_b1 {a b out : Array Keyed} {ia ib : Nat} (h : Prm a b out ia ib) (hk : ib < b.size) : Prm a b (out.push b[ib]) ia (ib + 1) := by rw [push_ext]; exact prm_b h 1 hk
theorem prm_a1 {a b out : Array Keyed} {ia ib : Nat} (h : Prm a b out ia ib) (hk : ia < a.size) : Prm a b (out.push a[ia]) (ia + 1) ib := by rw [push_ext]; exact prm_a h 1 hk
theorem prm_0 {a b : Array Keyed} (hb : 0 < b.size) : Prm a b #[b[0]] 0 1 := by
  have h : Prm a b #[] 0 0 := ⟨by simp, Nat.zero_le _, Nat.zero_le _⟩
  exact prm_b1 h hb
abbrev gSt (st : SortSt) (g : Nat) : SortSt := SortSt.mk' (kindOf st) (arrOf st) (pendingOf st) g (failedOf st)
theorem lo_at (hq : QL prog w A E s κ a₀) {a b : Array Keyed} {st : SortSt} {Q : Array Keyed → SortSt → Prop} (ha : ∀ x, x ∈ a → x ∈ a₀) (hb : ∀ x, x ∈ b → x ∈ a₀) (a1 : 0 < a.size) (b1 : 0 < b.size) (hκ : kindOf st = κ)
    (h : ∀ r g, r.toList.Perm (a.toList ++ b.toList) → Q r (gSt st g)) : wpS (model prog w) A E s (mergeLo' a b) Q st := by
  have ea : ∀ {i : Nat} (h : i < a.size), a[i] ∈ a₀ := fun h => ha _ (Array.getElem_mem h)
  have eb : ∀ {i : Nat} (h : i < b.size), b[i] ∈ a₀ := fun h => hb _ (Array.getElem_mem h)
  have est : gSt st (gallopOf st) = st := rfl
  refine wpS_bind (wpS_lift (wpAny_rule ⟨rfl, ?_⟩))
  refine wpS_bind (el_at b1 ?_)
  dsimp only
  by_cases c1 : (1 == b.size) = true
  · rw [if_pos c1]
    exact wpS_pure (est ▸ h _ (gallopOf st) (prm_done (prm_0 b1)))
  rw [if_neg c1]
  by_cases c2 : (0 + 1 == a.size) = true
  · rw [if_pos c2]
    exact wpS_pure (est ▸ h _ (gallopOf st) (prm_last (prm_0 b1)))
  rw [if_neg c2]
  have c1' : 1 ≠ b.size := fun z => c1 (by rw [← z]; rfl)
  have c2' : 1 ≠ a.size := fun z => c2 (by rw [← z]; rfl)
  refine wpS_bind (wpS_get ?_)
  refine wpS_bind (wpS_mono (wpS_forRange
    (I := fun x (c : Option (Array Keyed) × Array Keyed × Nat × Nat × Nat) st' => (c.1 = none ∧ Prm a b c.2.1 c.2.2.1 c.2.2.2.1 ∧ c.2.2.1 + 1 < a.size ∧ c.2.2.2.1 < b.size ∧ x + 1 ≤ c.2.2.1 + c.2.2.2.1) ∧ ∃ g, st' = gSt st g)
    (Q := fun c st' => ∃ r, c.1 = some r ∧ r.toList.Perm (a.toList ++ b.toList) ∧ ∃ g, st' = gSt st g) ?_ ?_ ⟨⟨rfl, prm_0 b1, by show 0 + 1 < _; omega, by show 1 < _; omega, by show 0 + 1 ≤ 0 + 1; omega⟩, _, rfl⟩) ?_)
  · rintro x ⟨r0, out, ia, ib, mg⟩ st' _ hx ⟨⟨e0, hp, hia, hib, hlo⟩, g, rfl⟩
    dsimp only at e0 hp hia hib hlo ⊢
    refine wpS_bind (wpS_mono (wpS_forRange
      (I := fun y (c : Option (Array Keyed) × Array Keyed × Nat × Nat × Nat × Nat) st' => (c.1 = none ∧ Prm a b c.2.1 c.2.2.1 c.2.2.2.1 ∧ c.2.2.1 + 1 < a.size ∧ c.2.2.2.1 < b.size ∧ ia + ib + min y 1 ≤ c.2.2.1 + c.2.2.2.1) ∧ ∃ g, st' = gSt st g)
      (Q := fun c st' => ((∃ r, c.1 = some r ∧ r.toList.Perm (a.toList ++ b.toList)) ∨ (c.1 = none ∧ Prm a b c.2.1 c.2.2.1 c.2.2.2.1 ∧ c.2.2.1 + 1 < a.size ∧ c.2.2.2.1 < b.size ∧ ia + ib + 1 ≤ c.2.2.1 + c.2.2.2.1)) ∧ ∃ g, st' = gSt st g) ?_ ?_ ⟨⟨rfl, hp, hia, hib, by show ia + ib + min 0 1 ≤ ia + ib; omega⟩, _, rfl⟩) ?_)
    · rintro y ⟨r1, out, ja, jb, ac, bc⟩ st' _ hy ⟨⟨e1, hp, hja, hjb, hl1⟩, g, rfl⟩
      dsimp only at e1 hp hja hjb hl1 ⊢
      refine wpS_bind (el_at hjb (wpS_bind (el_at (show ja < a.size by omega) (wpS_bind (hq _ _ _ _ (eb hjb) (ea (by omega)) hκ fun bw => ?_)))))
      cases bw with
      | true =>
        refine wpS_bind (el_at hjb ?_)
        try dsimp only
        have hp1 := prm_b1 hp hjb
        by_cases d : (jb + 1 == b.size) = true
        · rw [if_pos d]
          exact wpS_pure ⟨.inl ⟨_, rfl, prm_done hp1⟩, _, rfl⟩
        rw [if_neg d]
        have d' : jb + 1 ≠ b.size := fun z => d (by rw [z]; exact beq_self_eq_true _)
        by_cases f : bc + 1 ≥ mg
        · rw [if_pos f]
          exact wpS_pure ⟨.inr ⟨rfl, hp1, hja, (by show jb + 1 < b.size; omega), (by show ia + ib + 1 ≤ ja + (jb + 1); omega)⟩, _, rfl⟩
        · rw [if_neg f]
          exact wpS_pure ⟨⟨rfl, hp1, hja, (by show jb + 1 < b.size; omega), (by show ia + ib + min (y + 1) 1 ≤ ja + (jb + 1); omega)⟩, _, rfl⟩
      | false =>
        refine wpS_bind (el_at (show ja < a.size by omega) ?_)
        try dsimp only
        have hp1 := prm_a1 hp (show ja < a.size by omega)
        by_cases d : (ja + 1 + 1 == a.size) = true
        · rw [if_pos d]
          exact wpS_pure ⟨.inl ⟨_, rfl, prm_last hp1⟩, _, rfl⟩
        rw [if_neg d]
        have d' : ja + 1 + 1 ≠ a.size := fun z => d (by rw [z]; exact beq_self_eq_true _)
        by_cases f : ac + 1 ≥ mg
        · rw [if_pos f]
          exact wpS_pure ⟨.inr ⟨rfl, hp1, (by show ja + 1 + 1 < a.size; omega), hjb, (by show ia + ib + 1 ≤ ja + 1 + jb; omega)⟩, _, rfl⟩
        · rw [if_neg f]
          exact wpS_pure ⟨⟨rfl, hp1, (by show ja + 1 + 1 < a.size; omega), hjb, (by show ia + ib + min (y + 1) 1 ≤ ja + 1 + jb; omega)⟩, _, rfl⟩
    · rintro c st' ⟨⟨e1, hp, hja, hjb, hl1⟩, g⟩
      exact ⟨.inr ⟨e1, hp, hja, hjb, by omega⟩, g⟩
    · rintro ⟨r1, out, ja, jb, ac, bc⟩ st' ⟨hc, g, rfl⟩
      dsimp only at hc ⊢
      rcases hc with ⟨r, rfl, hr⟩ | ⟨rfl, hp, hja, hjb, hl1⟩
      · exact wpS_pure ⟨r, rfl, hr, _, rfl⟩
      dsimp only
      refine wpS_bind (wpS_lift (wpAny_rule ⟨rfl, ?_⟩))
      refine wpS_bind (wpS_mono (wpS_forRange
        (I := fun y (c : Option (Array Keyed) × Array Keyed × Nat × Nat × Nat × Nat × Nat) st' => (c.1 = none ∧ Prm a b c.2.1 c.2.2.1 c.2.2.2.1 ∧ c.2.2.1 + 1 < a.size ∧ c.2.2.2.1 < b.size ∧ ia + ib + 1 ≤ c.2.2.1 + c.2.2.2.1) ∧ ∃ g, st' = gSt st g)
        (Q := fun c st' => ((∃ r, c.1 = some r ∧ r.toList.Perm (a.toList ++ b.toList)) ∨ (c.1 = none ∧ Prm a b c.2.1 c.2.2.1 c.2.2.2.1 ∧ c.2.2.1 + 1 < a.size ∧ c.2.2.2.1 < b.size ∧ ia + ib + 1 ≤ c.2.2.1 + c.2.2.2.1)) ∧ ∃ g, st' = gSt st g) ?_ (fun c st' z => ⟨.inr z.1, z.2⟩) ⟨⟨rfl, hp, hja, hjb, hl1⟩, _, rfl⟩) ?_)
      · rintro y ⟨r2, out, ka, kb, mg2, ac2, bc2⟩ st' _ hy ⟨⟨e2, hp, hka, hkb, hl2⟩, g, rfl⟩
        dsimp only at e2 hp hka hkb hl2 ⊢
        by_cases mm : mg2 > 1
        · rw [if_pos mm]
          refine wpS_bind (wpS_modify ?_)
          refine wpS_bind (el_at hkb ?_)
          refine wpS_bind (gallop_at hq (eb hkb) ha (by omega) (by omega) hκ fun k hk => ?_)
          try dsimp only
          by_cases k0 : k > 0
          · rw [if_pos k0]
            have hp1 := prm_a hp k (by omega)
            by_cases d1 : (ka + k + 1 == a.size) = true
            · rw [if_pos d1]
              exact wpS_pure ⟨.inl ⟨_, rfl, prm_last hp1⟩, _, rfl⟩
            rw [if_neg d1]
            have d1' : ka + k + 1 ≠ a.size := fun z => d1 (by rw [z]; exact beq_self_eq_true _)
            by_cases d2 : (ka + k == a.size) = true
            · rw [if_pos d2]
              exact wpS_pure ⟨.inl ⟨_, rfl, prm_done hp1⟩, _, rfl⟩
            rw [if_neg d2]
            have d2' : ka + k ≠ a.size := fun z => d2 (by rw [z]; exact beq_self_eq_true _)
            refine wpS_bind (el_at hkb ?_)
            try dsimp only
            have hp2 := prm_b1 hp1 hkb
            by_cases d3 : (kb + 1 == b.size) = true
            · rw [if_pos d3]
              exact wpS_pure ⟨.inl ⟨_, rfl, prm_done hp2⟩, _, rfl⟩
            rw [if_neg d3]
            have d3' : kb + 1 ≠ b.size := fun z => d3 (by rw [z]; exact beq_self_eq_true _)
            refine wpS_bind (el_at (show ka + k < a.size by omega) ?_)
            refine wpS_bind (gallop_at hq (ea (by omega)) hb (by omega) (by omega) hκ fun k2 hk2 => ?_)
            try dsimp only
            by_cases k20 : k2 > 0
            · rw [if_pos k20]
              have hp3 := prm_b hp2 k2 (by omega)
              by_cases d4 : (kb + 1 + k2 == b.size) = true
              · rw [if_pos d4]
                exact wpS_pure ⟨.inl ⟨_, rfl, prm_done hp3⟩, _, rfl⟩
              rw [if_neg d4]
              have d4' : kb + 1 + k2 ≠ b.size := fun z => d4 (by rw [z]; exact beq_self_eq_true _)
              refine wpS_bind (el_at (show ka + k < a.size by omega) ?_)
              try dsimp only
              have hp4 := prm_a1 hp3 (show ka + k < a.size by omega)
              by_cases d5 : (ka + k + 1 + 1 == a.size) = true
              · rw [if_pos d5]
                exact wpS_pure ⟨.inl ⟨_, rfl, prm_last hp4⟩, _, rfl⟩
              rw [if_neg d5]
              have d5' : ka + k + 1 + 1 ≠ a.size := fun z => d5 (by rw [z]; exact beq_self_eq_true _)
              by_cases d6 : (decide (k < 7) && decide (k2 < 7)) = true
              · rw [if_pos d6]
                exact wpS_pure ⟨.inr ⟨rfl, hp4, (by show ka + k + 1 + 1 < a.size; omega), (by show kb + 1 + k2 < b.size; omega), (by show ia + ib + 1 ≤ ka + k + 1 + (kb + 1 + k2); omega)⟩, _, rfl⟩
              · rw [if_neg d6]
                exact wpS_pure ⟨⟨rfl, hp4, (by show ka + k + 1 + 1 < a.size; omega), (by show kb + 1 + k2 < b.size; omega), (by show ia + ib + 1 ≤ ka + k + 1 + (kb + 1 + k2); omega)⟩, _, rfl⟩
            · rw [if_neg k20]
              refine wpS_bind (el_at (show ka + k < a.size by omega) ?_)
              try dsimp only
              have hp4 := prm_a1 hp2 (show ka + k < a.size by omega)
              by_cases d5 : (ka + k + 1 + 1 == a.size) = true
              · rw [if_pos d5]
                exact wpS_pure ⟨.inl ⟨_, rfl, prm_last hp4⟩, _, rfl⟩
              rw [if_neg d5]
              have d5' : ka + k + 1 + 1 ≠ a.size := fun z => d5 (by rw [z]; exact beq_self_eq_true _)
              by_cases d6 : (decide (k < 7) && decide (k2 < 7)) = true
              · rw [if_pos d6]
                exact wpS_pure ⟨.inr ⟨rfl, hp4, (by show ka + k + 1 + 1 < a.size; omega), (by show kb + 1 < b.size; omega), (by show ia + ib + 1 ≤ ka + k + 1 + (kb + 1); omega)⟩, _, rfl⟩
              · rw [if_neg d6]
                exact wpS_pure ⟨⟨rfl, hp4, (by show ka + k + 1 + 1 < a.size; omega), (by show kb + 1 < b.size; omega), (by show ia + ib + 1 ≤ ka + k + 1 + (kb + 1); omega)⟩, _, rfl⟩
          · rw [if_neg k0]
            refine wpS_bind (el_at hkb ?_)
            try dsimp only
            have hp2 := prm_b1 hp hkb
            by_cases d3 : (kb + 1 == b.size) = true
            · rw [if_pos d3]
              exact wpS_pure ⟨.inl ⟨_, rfl, prm_done hp2⟩, _, rfl⟩
            rw [if_neg d3]
            have d3' : kb + 1 ≠ b.size := fun z => d3 (by rw [z]; exact beq_self_eq_true _)
            refine wpS_bind (el_at (show ka < a.size by omega) ?_)
            refine wpS_bind (gallop_at hq (ea (by omega)) hb (by omega) (by omega) hκ fun k2 hk2 => ?_)
            try dsimp only
            by_cases k20 : k2 > 0
            · rw [if_pos k20]
              have hp3 := prm_b hp2 k2 (by omega)
              by_cases d4 : (kb + 1 + k2 == b.size) = true
              · rw [if_pos d4]
                exact wpS_pure ⟨.inl ⟨_, rfl, prm_done hp3⟩, _, rfl⟩
              rw [if_neg d4]
              have d4' : kb + 1 + k2 ≠ b.size := fun z => d4 (by rw [z]; exact beq_self_eq_true _)
              refine wpS_bind (el_at (show ka < a.size by omega) ?_)
              try dsimp only
              have hp4 := prm_a1 hp3 (show ka < a.size by omega)
              by_cases d5 : (ka + 1 + 1 == a.size) = true
              · rw [if_pos d5]
                exact wpS_pure ⟨.inl ⟨_, rfl, prm_last hp4⟩, _, rfl⟩
              rw [if_neg d5]
              have d5' : ka + 1 + 1 ≠ a.size := fun z => d5 (by rw [z]; exact beq_self_eq_true _)
              by_cases d6 : (decide (k < 7) && decide (k2 < 7)) = true
              · rw [if_pos d6]
                exact wpS_pure ⟨.inr ⟨rfl, hp4, (by show ka + 1 + 1 < a.size; omega), (by show kb + 1 + k2 < b.size; omega), (by show ia + ib + 1 ≤ ka + 1 + (kb + 1 + k2); omega)⟩, _, rfl⟩
              · rw [if_neg d6]
                exact wpS_pure ⟨⟨rfl, hp4, (by show ka + 1 + 1 < a.size; omega), (by show kb + 1 + k2 < b.size; omega), (by show ia + ib + 1 ≤ ka + 1 + (kb + 1 + k2); omega)⟩, _, rfl⟩
            · rw [if_neg k20]
              refine wpS_bind (el_at (show ka < a.size by omega) ?_)
              try dsimp only
              have hp4 := prm_a1 hp2 (show ka < a.size by omega)
              by_cases d5 : (ka + 1 + 1 == a.size) = true
              · rw [if_pos d5]
                exact wpS_pure ⟨.inl ⟨_, rfl, prm_last hp4⟩, _, rfl⟩
              rw [if_neg d5]
              have d5' : ka + 1 + 1 ≠ a.size := fun z => d5 (by rw [z]; exact beq_self_eq_true _)
              by_cases d6 : (decide (k < 7) && decide (k2 < 7)) = true
              · rw [if_pos d6]
                exact wpS_pure ⟨.inr ⟨rfl, hp4, (by show ka + 1 + 1 < a.size; omega), (by show kb + 1 < b.size; omega), (by show ia + ib + 1 ≤ ka + 1 + (kb + 1); omega)⟩, _, rfl⟩
              · rw [if_neg d6]
                exact wpS_pure ⟨⟨rfl, hp4, (by show ka + 1 + 1 < a.size; omega), (by show kb + 1 < b.size; omega), (by show ia + ib + 1 ≤ ka + 1 + (kb + 1); omega)⟩, _, rfl⟩
        · rw [if_neg mm]
          refine wpS_bind (wpS_modify ?_)
          refine wpS_bind (el_at hkb ?_)
          refine wpS_bind (gallop_at hq (eb hkb) ha (by omega) (by omega) hκ fun k hk => ?_)
          try dsimp only
          by_cases k0 : k > 0
          · rw [if_pos k0]
            have hp1 := prm_a hp k (by omega)
            by_cases d1 : (ka + k + 1 == a.size) = true
            · rw [if_pos d1]
              exact wpS_pure ⟨.inl ⟨_, rfl, prm_last hp1⟩, _, rfl⟩
            rw [if_neg d1]
            have d1' : ka + k + 1 ≠ a.size := fun z => d1 (by rw [z]; exact beq_self_eq_true _)
            by_cases d2 : (ka + k == a.size) = true
            · rw [if_pos d2]
              exact wpS_pure ⟨.inl ⟨_, rfl, prm_done hp1⟩, _, rfl⟩
            rw [if_neg d2]
            have d2' : ka + k ≠ a.size := fun z => d2 (by rw [z]; exact beq_self_eq_true _)
            refine wpS_bind (el_at hkb ?_)
            try dsimp only
            have hp2 := prm_b1 hp1 hkb
            by_cases d3 : (kb + 1 == b.size) = true
            · rw [if_pos d3]
              exact wpS_pure ⟨.inl ⟨_, rfl, prm_done hp2⟩, _, rfl⟩
            rw [if_neg d3]
            have d3' : kb + 1 ≠ b.size := fun z => d3 (by rw [z]; exact beq_self_eq_true _)
            refine wpS_bind (el_at (show ka + k < a.size by omega) ?_)
            refine wpS_bind (gallop_at hq (ea (by omega)) hb (by omega) (by omega) hκ fun k2 hk2 => ?_)
            try dsimp only
            by_cases k20 : k2 > 0
            · rw [if_pos k20]
              have hp3 := prm_b hp2 k2 (by omega)
              by_cases d4 : (kb + 1 + k2 == b.size) = true
              · rw [if_pos d4]
                exact wpS_pure ⟨.inl ⟨_, rfl, prm_done hp3⟩, _, rfl⟩
              rw [if_neg d4]
              have d4' : kb + 1 + k2 ≠ b.size := fun z => d4 (by rw [z]; exact beq_self_eq_true _)
              refine wpS_bind (el_at (show ka + k < a.size by omega) ?_)
              try dsimp only
              have hp4 := prm_a1 hp3 (show ka + k < a.size by omega)
              by_cases d5 : (ka + k + 1 + 1 == a.size) = true
              · rw [if_pos d5]
                exact wpS_pure ⟨.inl ⟨_, rfl, prm_last hp4⟩, _, rfl⟩
              rw [if_neg d5]
              have d5' : ka + k + 1 + 1 ≠ a.size := fun z => d5 (by rw [z]; exact beq_self_eq_true _)
              by_cases d6 : (decide (k < 7) && decide (k2 < 7)) = true
              · rw [if_pos d6]
                exact wpS_pure ⟨.inr ⟨rfl, hp4, (by show ka + k + 1 + 1 < a.size; omega), (by show kb + 1 + k2 < b.size; omega), (by show ia + ib + 1 ≤ ka + k + 1 + (kb + 1 + k2); omega)⟩, _, rfl⟩
              · rw [if_neg d6]
                exact wpS_pure ⟨⟨rfl, hp4, (by show ka + k + 1 + 1 < a.size; omega), (by show kb + 1 + k2 < b.size; omega), (by show ia + ib + 1 ≤ ka + k + 1 + (kb + 1 + k2); omega)⟩, _, rfl⟩
            · rw [if_neg k20]
              refine wpS_bind (el_at (show ka + k < a.size by omega) ?_)
              try dsimp only
              have hp4 := prm_a1 hp2 (show ka + k < a.size by omega)
              by_cases d5 : (ka + k + 1 + 1 == a.size) = true
              · rw [if_pos d5]
                exact wpS_pure ⟨.inl ⟨_, rfl, prm_last hp4⟩, _, rfl⟩
              rw [if_neg d5]
              have d5' : ka + k + 1 + 1 ≠ a.size := fun z => d5 (by rw [z]; exact beq_self_eq_true _)
              by_cases d6 : (decide (k < 7) && decide (k2 < 7)) = true
              · rw [if_pos d6]
                exact wpS_pure ⟨.inr ⟨rfl, hp4, (by show ka + k + 1 + 1 < a.size; omega), (by show kb + 1 < b.size; omega), (by show ia + ib + 1 ≤ ka + k + 1 + (kb + 1); omega)⟩, _, rfl⟩
              · rw [if_neg d6]
                exact wpS_pure ⟨⟨rfl, hp4, (by show ka + k + 1 + 1 < a.size; omega), (by show kb + 1 < b.size; omega), (by show ia + ib + 1 ≤ ka + k + 1 + (kb + 1); omega)⟩, _, rfl⟩
          · rw [if_neg k0]
            refine wpS_bind (el_at hkb ?_)
            try dsimp only
            have hp2 := prm_b1 hp hkb
            by_cases d3 : (kb + 1 == b.size) = true
            · rw [if_pos d3]
              exact wpS_pure ⟨.inl ⟨_, rfl, prm_done hp2⟩, _, rfl⟩
            rw [if_neg d3]
            have d3' : kb + 1 ≠ b.size := fun z => d3 (by rw [z]; exact beq_self_eq_true _)
            refine wpS_bind (el_at (show ka < a.size by omega) ?_)
            refine wpS_bind (gallop_at hq (ea (by omega)) hb (by omega) (by omega) hκ fun k2 hk2 => ?_)
            try dsimp only
            by_cases k20 : k2 > 0
            · rw [if_pos k20]
              have hp3 := prm_b hp2 k2 (by omega)
              by_cases d4 : (kb + 1 + k2 == b.size) = true
              · rw [if_pos d4]
                exact wpS_pure ⟨.inl ⟨_, rfl, prm_done hp3⟩, _, rfl⟩
              rw [if_neg d4]
              have d4' : kb + 1 + k2 ≠ b.size := fun z => d4 (by rw [z]; exact beq_self_eq_true _)
              refine wpS_bind (el_at (show ka < a.size by omega) ?_)
              try dsimp only
              have hp4 := prm_a1 hp3 (show ka < a.size by omega)
              by_cases d5 : (ka + 1 + 1 == a.size) = true
              · rw [if_pos d5]
                exact wpS_pure ⟨.inl ⟨_, rfl, prm_last hp4⟩, _, rfl⟩
              rw [if_neg d5]
              have d5' : ka + 1 + 1 ≠ a.size := fun z => d5 (by rw [z]; exact beq_self_eq_true _)
              by_cases d6 : (decide (k < 7) && decide (k2 < 7)) = true
              · rw [if_pos d6]
                exact wpS_pure ⟨.inr ⟨rfl, hp4, (by show ka + 1 + 1 < a.size; omega), (by show kb + 1 + k2 < b.size; omega), (by show ia + ib + 1 ≤ ka + 1 + (kb + 1 + k2); omega)⟩, _, rfl⟩
              · rw [if_neg d6]
                exact wpS_pure ⟨⟨rfl, hp4, (by show ka + 1 + 1 < a.size; omega), (by show kb + 1 + k2 < b.size; omega), (by show ia + ib + 1 ≤ ka + 1 + (kb + 1 + k2); omega)⟩, _, rfl⟩
            · rw [if_neg k20]
              refine wpS_bind (el_at (show ka < a.size by omega) ?_)
              try dsimp only
              have hp4 := prm_a1 hp2 (show ka < a.size by omega)
              by_cases d5 : (ka + 1 + 1 == a.size) = true
              · rw [if_pos d5]
                exact wpS_pure ⟨.inl ⟨_, rfl, prm_last hp4⟩, _, rfl⟩
              rw [if_neg d5]
              have d5' : ka + 1 + 1 ≠ a.size := fun z => d5 (by rw [z]; exact beq_self_eq_true _)
              by_cases d6 : (decide (k < 7) && decide (k2 < 7)) = true
              · rw [if_pos d6]
                exact wpS_pure ⟨.inr ⟨rfl, hp4, (by show ka + 1 + 1 < a.size; omega), (by show kb + 1 < b.size; omega), (by show ia + ib + 1 ≤ ka + 1 + (kb + 1); omega)⟩, _, rfl⟩
              · rw [if_neg d6]
                exact wpS_pure ⟨⟨rfl, hp4, (by show ka + 1 + 1 < a.size; omega), (by show kb + 1 < b.size; omega), (by show ia + ib + 1 ≤ ka + 1 + (kb + 1); omega)⟩, _, rfl⟩
      · rintro ⟨r2, out, ka, kb, mg2, ac2, bc2⟩ st' ⟨hc, g, rfl⟩
        dsimp only at hc ⊢
        rcases hc with ⟨r, rfl, hr⟩ | ⟨rfl, hp, hka, hkb, hl2⟩
        · exact wpS_pure ⟨r, rfl, hr, _, rfl⟩
        dsimp only
        refine wpS_bind (wpS_modify (wpS_pure ⟨⟨rfl, hp, hka, hkb, (by show x + 1 + 1 ≤ ka + kb; omega)⟩, _, rfl⟩))
  · rintro c st' ⟨⟨e0, hp, hia, hib, hlo⟩, _⟩
    exfalso
    omega
  · rintro ⟨r0, out, ia, ib, mg⟩ st' ⟨r, e, hr, g, rfl⟩
    dsimp only at e ⊢
    subst e
    exact wpS_pure (h r g hr)
end
end L2
set_option Elab.async false
set_option linter.all false
set_option maxRecDepth 100000
set_option maxHeartbeats 4000000
namespace L2
open PySem PySem.Spec PyProof.Rows
section
variable {prog : Program} {w : World} {A : Around} {E : Value → Shared → Prop} {s : Shared} {a₀ : Array Keyed} {κ : SortKind}
def PrmH (a b out : Array Keyed) (na nb : Nat) : Prop := ((a.toList.take na ++ b.toList.take nb) ++ out.toList).Perm (a.toList ++ b.toList) ∧ na ≤ a.size ∧ nb ≤ b.size
theorem ext_0 (a : Array Keyed) (n : Nat) : (a.extract 0 n).toList = a.toList.take n := by rw [ext_list, List.drop_zero, Nat.sub_zero]
theorem prmh_done {a b out : Array Keyed} {na nb : Nat} (h : PrmH a b out na nb) : (a.extract 0 na ++ b.extract 0 nb ++ out.reverse).toList.Perm (a.toList ++ b.toList) := by
  rw [Array.toList_append, Array.toList_append, ext_0, ext_0, Array.toList_reverse]
  exact (List.Perm.append_left _ (List.reverse_perm _)).trans h.1
theorem prmh_first {a b out : Array Keyed} {na nb : Nat} (h : PrmH a b out na nb) : (b.extract 0 nb ++ a.extract 0 na ++ out.reverse).toList.Perm (a.toList ++ b.toList) := by
  rw [Array.toList_append, Array.toList_append, ext_0, ext_0, Array.toList_reverse]
  exact (List.Perm.append List.perm_append_comm (List.reverse_perm _)).trans h.1
theorem take_cut {l : List Keyed} {k n : Nat} (h : k ≤ n) : l.take n = l.take k ++ (l.drop k).take (n - k) := by
  rw [← List.take_append_drop k (l.take n), List.take_take, Nat.min_eq_left h, List.drop_take]
theorem prmh_a {a b out : Array Keyed} {na nb : Nat} (h : PrmH a b out na nb) (k : Nat) (hk : k ≤ na) : PrmH a b (out ++ (a.extract k na).reverse) k nb := by
  refine ⟨?_, Nat.le_trans hk h.2.1, h.2.2⟩
  refine List.Perm.trans ?_ h.1
  rw [Array.toList_append, Array.toList_reverse, ext_list, take_cut hk]
  generalize a.toList.take k = x
  generalize (a.toList.drop k).take (na - k) = y
  generalize b.toList.take nb = z
  generalize out.toList = o
  have : (o ++ y.reverse).Perm (y ++ o) := (List.Perm.append_left _ (List.reverse_perm _)).trans List.perm_append_comm
  refine (List.Perm.append_left _ this).trans ?_
  rw [List.append_assoc, List.append_assoc, List.append_assoc]
  refine List.Perm.append_left _ ?_
  rw [← List.append_assoc, ← List.append_assoc]
  exact List.Perm.append_right _ List.perm_append_comm
theorem prmh_b {a b out : Array Keyed} {na nb : Nat} (h : PrmH a b out na nb) (k : Nat) (hk : k ≤ nb) : PrmH a b (out ++ (b.extract k nb).reverse) na k := by
  refine ⟨?_, h.2.1, Nat.le_trans hk h.2.2⟩
  refine List.Perm.trans ?_ h.1
  rw [Array.toList_append, Array.toList_reverse, ext_list, take_cut hk]
  generalize b.toList.take k = x
  generalize (b.toList.drop k).take (nb - k) = y
  generalize a.toList.take na = z
  generalize out.toList = o
  have : (o ++ y.reverse).Perm (y ++ o) := (List.Perm.append_left _ (List.reverse_perm _)).trans List.perm_append_comm
  refine (List.Perm.append_left _ this).trans ?_
  rw [List.append_assoc, List.append_assoc, List.append_assoc]
theorem push_rev (out a : Array Keyed) (n : Nat) (h0 : 0 < n) (h : n - 1 < a.size) : out.push a[n - 1] = out ++ (a.extract (n - 1) n).reverse := by
  obtain ⟨m, rfl⟩ : ∃ m, n = m + 1 := ⟨n - 1, by omega⟩
  have e := push_ext out a m h
  simp only [Nat.add_sub_cancel] at *
  rw [e]
  congr 1
  apply Array.toList_inj.mp
  have h' : m < a.toList.length := by simpa using h
  rw [Array.toList_reverse, ext_k, List.drop_eq_getElem_cons h']
  simp
theorem prmh_a1 {a b out : Array Keyed} {na nb : Nat} (h : PrmH a b out na nb) (h0 : 0 < na) : PrmH a b (out.push (a[na - 1]'(by have := h.2.1; omega))) (na - 1) nb := by rw [push_rev _ _ _ h0]; exact prmh_a h (na - 1) (by omega)
theorem prmh_b1 {a b out : Array Keyed} {na nb : Nat} (h : PrmH a b out na nb) (h0 : 0 < nb) : PrmH a b (out.push (b[nb - 1]'(by have := h.2.2; omega))) na (nb - 1) := by rw [push_rev _ _ _ h0]; exact prmh_b h (nb - 1) (by omega)
theorem prmh_0 {a b : Array Keyed} (ha : 0 < a.size) : PrmH a b #[a[a.size - 1]] (a.size - 1) b.size := by
  have h : PrmH a b #[] a.size b.size := ⟨by rw [List.take_of_length_le (by simp), List.take_of_length_le (by simp)]; simp, Nat.le_refl _, Nat.le_refl _⟩
  exact prmh_a1 h ha
theorem hi_at (hq : QL prog w A E s κ a₀) {a b : Array Keyed} {st : SortSt} {Q : Array Keyed → SortSt → Prop} (ha : ∀ x, x ∈ a → x ∈ a₀) (hb : ∀ x, x ∈ b → x ∈ a₀) (a1 : 0 < a.size) (b1 : 0 < b.size) (hκ : kindOf st = κ)
    (h : ∀ r g, r.toList.Perm (a.toList ++ b.toList) → Q r (gSt st g)) : wpS (model prog w) A E s (mergeHi' a b) Q st := by
  have ea : ∀ {i : Nat} (h : i < a.size), a[i] ∈ a₀ := fun h => ha _ (Array.getElem_mem h)
  have eb : ∀ {i : Nat} (h : i < b.size), b[i] ∈ a₀ := fun h => hb _ (Array.getElem_mem h)
  have est : gSt st (gallopOf st) = st := rfl
  refine wpS_bind (wpS_lift (wpAny_rule ⟨rfl, ?_⟩))
  refine wpS_bind (el_at (show a.size - 1 < a.size by omega) ?_)
  try dsimp only
  by_cases c1 : (a.size - 1 == 0) = true
  · rw [if_pos c1]
    exact wpS_pure (est ▸ h _ (gallopOf st) (prmh_done (prmh_0 a1)))
  rw [if_neg c1]
  by_cases c2 : (b.size == 1) = true
  · rw [if_pos c2]
    exact wpS_pure (est ▸ h _ (gallopOf st) (prmh_first (prmh_0 a1)))
  rw [if_neg c2]
  have c1' : a.size - 1 ≠ 0 := fun z => c1 (by rw [z]; rfl)
  have c2' : b.size ≠ 1 := fun z => c2 (by rw [z]; rfl)
  refine wpS_bind (wpS_get ?_)
  refine wpS_bind (wpS_mono (wpS_forRange
    (I := fun x (c : Option (Array Keyed) × Nat × Nat × Array Keyed × Nat) st' => ((c.1 = none ∧ PrmH a b c.2.2.2.1 c.2.1 c.2.2.1 ∧ 0 < c.2.1 ∧ 1 < c.2.2.1) ∧ c.2.1 + c.2.2.1 + x + 1 ≤ a.size + b.size) ∧ ∃ g, st' = gSt st g)
    (Q := fun c st' => ∃ r, c.1 = some r ∧ r.toList.Perm (a.toList ++ b.toList) ∧ ∃ g, st' = gSt st g) ?_ ?_ ⟨⟨⟨rfl, prmh_0 a1, by show 0 < a.size - 1; omega, by show 1 < b.size; omega⟩, by show a.size - 1 + b.size + 0 + 1 ≤ _; omega⟩, _, rfl⟩) ?_)
  · rintro x ⟨r0, na, nb, out, mg⟩ st' _ hx ⟨⟨⟨e0, hp, hna, hnb⟩, hlo⟩, g, rfl⟩
    dsimp only at e0 hp hna hnb hlo ⊢
    have lna := hp.2.1
    have lnb := hp.2.2
    refine wpS_bind (wpS_mono (wpS_forRange
      (I := fun y (c : Option (Array Keyed) × Nat × Nat × Array Keyed × Nat × Nat) st' => ((c.1 = none ∧ PrmH a b c.2.2.2.1 c.2.1 c.2.2.1 ∧ 0 < c.2.1 ∧ 1 < c.2.2.1) ∧ c.2.1 + c.2.2.1 + min y 1 ≤ na + nb) ∧ ∃ g, st' = gSt st g)
      (Q := fun c st' => ((∃ r, c.1 = some r ∧ r.toList.Perm (a.toList ++ b.toList)) ∨ ((c.1 = none ∧ PrmH a b c.2.2.2.1 c.2.1 c.2.2.1 ∧ 0 < c.2.1 ∧ 1 < c.2.2.1) ∧ c.2.1 + c.2.2.1 + 1 ≤ na + nb)) ∧ ∃ g, st' = gSt st g) ?_ ?_ ⟨⟨⟨rfl, hp, hna, hnb⟩, by show na + nb + min 0 1 ≤ na + nb; omega⟩, _, rfl⟩) ?_)
    · rintro y ⟨r1, ja, jb, out, ac, bc⟩ st' _ hy ⟨⟨⟨e1, hp, hja, hjb⟩, hl1⟩, g, rfl⟩
      dsimp only at e1 hp hja hjb hl1 ⊢
      have lja := hp.2.1
      have ljb := hp.2.2
      refine wpS_bind (el_at (show jb - 1 < b.size by omega) (wpS_bind (el_at (show ja - 1 < a.size by omega) (wpS_bind (hq _ _ _ _ (eb (by omega)) (ea (by omega)) hκ fun bw => ?_)))))
      cases bw with
      | true =>
        refine wpS_bind (el_at (show ja - 1 < a.size by omega) ?_)
        try dsimp only
        have hp1 := prmh_a1 hp hja
        by_cases d : (ja - 1 == 0) = true
        · rw [if_pos d]
          exact wpS_pure ⟨.inl ⟨_, rfl, prmh_done hp1⟩, _, rfl⟩
        rw [if_neg d]
        have d' : ja - 1 ≠ 0 := fun z => d (by rw [z]; rfl)
        by_cases f : ac + 1 ≥ mg
        · rw [if_pos f]
          exact wpS_pure ⟨.inr ⟨⟨rfl, hp1, (by show 0 < ja - 1; omega), hjb⟩, (by show ja - 1 + jb + 1 ≤ na + nb; omega)⟩, _, rfl⟩
        · rw [if_neg f]
          exact wpS_pure ⟨⟨⟨rfl, hp1, (by show 0 < ja - 1; omega), hjb⟩, (by show ja - 1 + jb + min (y + 1) 1 ≤ na + nb; omega)⟩, _, rfl⟩
      | false =>
        refine wpS_bind (el_at (show jb - 1 < b.size by omega) ?_)
        try dsimp only
        have hp1 := prmh_b1 hp (show 0 < jb by omega)
        by_cases d : (jb - 1 == 1) = true
        · rw [if_pos d]
          exact wpS_pure ⟨.inl ⟨_, rfl, prmh_first hp1⟩, _, rfl⟩
        rw [if_neg d]
        have d' : jb - 1 ≠ 1 := fun z => d (by rw [z]; rfl)
        by_cases f : bc + 1 ≥ mg
        · rw [if_pos f]
          exact wpS_pure ⟨.inr ⟨⟨rfl, hp1, hja, (by show 1 < jb - 1; omega)⟩, (by show ja + (jb - 1) + 1 ≤ na + nb; omega)⟩, _, rfl⟩
        · rw [if_neg f]
          exact wpS_pure ⟨⟨⟨rfl, hp1, hja, (by show 1 < jb - 1; omega)⟩, (by show ja + (jb - 1) + min (y + 1) 1 ≤ na + nb; omega)⟩, _, rfl⟩
    · rintro c st' ⟨⟨i1, hl1⟩, g⟩
      exact ⟨.inr ⟨i1, by omega⟩, g⟩
    · rintro ⟨r1, ja, jb, out, ac, bc⟩ st' ⟨hc, g, rfl⟩
      dsimp only at hc ⊢
      rcases hc with ⟨r, rfl, hr⟩ | ⟨⟨rfl, hp, hja, hjb⟩, hl1⟩
      · exact wpS_pure ⟨r, rfl, hr, _, rfl⟩
      dsimp only
      refine wpS_bind (wpS_lift (wpAny_rule ⟨rfl, ?_⟩))
      refine wpS_bind (wpS_mono (wpS_forRange
        (I := fun y (c : Option (Array Keyed) × Nat × Nat × Array Keyed × Nat × Nat × Nat) st' => ((c.1 = none ∧ PrmH a b c.2.2.2.1 c.2.1 c.2.2.1 ∧ 0 < c.2.1 ∧ 1 < c.2.2.1) ∧ c.2.1 + c.2.2.1 + 1 ≤ na + nb) ∧ ∃ g, st' = gSt st g)
        (Q := fun c st' => ((∃ r, c.1 = some r ∧ r.toList.Perm (a.toList ++ b.toList)) ∨ ((c.1 = none ∧ PrmH a b c.2.2.2.1 c.2.1 c.2.2.1 ∧ 0 < c.2.1 ∧ 1 < c.2.2.1) ∧ c.2.1 + c.2.2.1 + 1 ≤ na + nb)) ∧ ∃ g, st' = gSt st g) ?_ (fun c st' z => ⟨.inr z.1, z.2⟩) ⟨⟨⟨rfl, hp, hja, hjb⟩, hl1⟩, _, rfl⟩) ?_)
      · rintro y ⟨r2, ka, kb, out, mg2, ac2, bc2⟩ st' _ hy ⟨⟨⟨e2, hp, hka, hkb⟩, hl2⟩, g, rfl⟩
        dsimp only at e2 hp hka hkb hl2 ⊢
        have lka := hp.2.1
        have lkb := hp.2.2
        by_cases mm : mg2 > 1
        · rw [if_pos mm]
          refine wpS_bind (wpS_modify ?_)
          refine wpS_bind (el_at (show kb - 1 < b.size by omega) ?_)
          refine wpS_bind (gallop_at hq (eb (by omega)) ha (by omega) (by omega) hκ fun k hk => ?_)
          try dsimp only
          by_cases k0 : ka - k > 0
          · rw [if_pos k0]
            have hp1 := prmh_a hp k hk
            by_cases d1 : (k == 0) = true
            · rw [if_pos d1]
              exact wpS_pure ⟨.inl ⟨_, rfl, prmh_done hp1⟩, _, rfl⟩
            rw [if_neg d1]
            have d1' : k ≠ 0 := fun z => d1 (by rw [z]; rfl)
            refine wpS_bind (el_at (show kb - 1 < b.size by omega) ?_)
            try dsimp only
            have hp2 := prmh_b1 hp1 (show 0 < kb by omega)
            by_cases d3 : (kb - 1 == 1) = true
            · rw [if_pos d3]
              exact wpS_pure ⟨.inl ⟨_, rfl, prmh_first hp2⟩, _, rfl⟩
            rw [if_neg d3]
            have d3' : kb - 1 ≠ 1 := fun z => d3 (by rw [z]; rfl)
            refine wpS_bind (el_at (show k - 1 < a.size by omega) ?_)
            refine wpS_bind (gallop_at hq (ea (by omega)) hb (by omega) (by omega) hκ fun k2 hk2 => ?_)
            try dsimp only
            by_cases k20 : kb - 1 - k2 > 0
            · rw [if_pos k20]
              have hp3 := prmh_b hp2 k2 hk2
              by_cases d4 : (k2 == 1) = true
              · rw [if_pos d4]
                exact wpS_pure ⟨.inl ⟨_, rfl, prmh_first hp3⟩, _, rfl⟩
              rw [if_neg d4]
              have d4' : k2 ≠ 1 := fun z => d4 (by rw [z]; rfl)
              by_cases d7 : (k2 == 0) = true
              · rw [if_pos d7]
                exact wpS_pure ⟨.inl ⟨_, rfl, prmh_done hp3⟩, _, rfl⟩
              rw [if_neg d7]
              have d7' : k2 ≠ 0 := fun z => d7 (by rw [z]; rfl)
              refine wpS_bind (el_at (show k - 1 < a.size by omega) ?_)
              try dsimp only
              have hp4 := prmh_a1 hp3 (show 0 < k by omega)
              by_cases d5 : (k - 1 == 0) = true
              · rw [if_pos d5]
                exact wpS_pure ⟨.inl ⟨_, rfl, prmh_done hp4⟩, _, rfl⟩
              rw [if_neg d5]
              have d5' : k - 1 ≠ 0 := fun z => d5 (by rw [z]; rfl)
              by_cases d6 : (decide (ka - k < 7) && decide (kb - 1 - k2 < 7)) = true
              · rw [if_pos d6]
                exact wpS_pure ⟨.inr ⟨⟨rfl, hp4, (by show 0 < k - 1; omega), (by show 1 < k2; omega)⟩, (by show k - 1 + (k2) + 1 ≤ na + nb; omega)⟩, _, rfl⟩
              · rw [if_neg d6]
                exact wpS_pure ⟨⟨⟨rfl, hp4, (by show 0 < k - 1; omega), (by show 1 < k2; omega)⟩, (by show k - 1 + (k2) + 1 ≤ na + nb; omega)⟩, _, rfl⟩
            · rw [if_neg k20]
              refine wpS_bind (el_at (show k - 1 < a.size by omega) ?_)
              try dsimp only
              have hp4 := prmh_a1 hp2 (show 0 < k by omega)
              by_cases d5 : (k - 1 == 0) = true
              · rw [if_pos d5]
                exact wpS_pure ⟨.inl ⟨_, rfl, prmh_done hp4⟩, _, rfl⟩
              rw [if_neg d5]
              have d5' : k - 1 ≠ 0 := fun z => d5 (by rw [z]; rfl)
              by_cases d6 : (decide (ka - k < 7) && decide (kb - 1 - k2 < 7)) = true
              · rw [if_pos d6]
                exact wpS_pure ⟨.inr ⟨⟨rfl, hp4, (by show 0 < k - 1; omega), (by show 1 < kb - 1; omega)⟩, (by show k - 1 + (kb - 1) + 1 ≤ na + nb; omega)⟩, _, rfl⟩
              · rw [if_neg d6]
                exact wpS_pure ⟨⟨⟨rfl, hp4, (by show 0 < k - 1; omega), (by show 1 < kb - 1; omega)⟩, (by show k - 1 + (kb - 1) + 1 ≤ na + nb; omega)⟩, _, rfl⟩
          · rw [if_neg k0]
            refine wpS_bind (el_at (show kb - 1 < b.size by omega) ?_)
            try dsimp only
            have hp2 := prmh_b1 hp (show 0 < kb by omega)
            by_cases d3 : (kb - 1 == 1) = true
            · rw [if_pos d3]
              exact wpS_pure ⟨.inl ⟨_, rfl, prmh_first hp2⟩, _, rfl⟩
            rw [if_neg d3]
            have d3' : kb - 1 ≠ 1 := fun z => d3 (by rw [z]; rfl)
            refine wpS_bind (el_at (show ka - 1 < a.size by omega) ?_)
            refine wpS_bind (gallop_at hq (ea (by omega)) hb (by omega) (by omega) hκ fun k2 hk2 => ?_)
            try dsimp only
            by_cases k20 : kb - 1 - k2 > 0
            · rw [if_pos k20]
              have hp3 := prmh_b hp2 k2 hk2
              by_cases d4 : (k2 == 1) = true
              · rw [if_pos d4]
                exact wpS_pure ⟨.inl ⟨_, rfl, prmh_first hp3⟩, _, rfl⟩
              rw [if_neg d4]
              have d4' : k2 ≠ 1 := fun z => d4 (by rw [z]; rfl)
              by_cases d7 : (k2 == 0) = true
              · rw [if_pos d7]
                exact wpS_pure ⟨.inl ⟨_, rfl, prmh_done hp3⟩, _, rfl⟩
              rw [if_neg d7]
              have d7' : k2 ≠ 0 := fun z => d7 (by rw [z]; rfl)
              refine wpS_bind (el_at (show ka - 1 < a.size by omega) ?_)
              try dsimp only
              have hp4 := prmh_a1 hp3 (show 0 < ka by omega)
              by_cases d5 : (ka - 1 == 0) = true
              · rw [if_pos d5]
                exact wpS_pure ⟨.inl ⟨_, rfl, prmh_done hp4⟩, _, rfl⟩
              rw [if_neg d5]
              have d5' : ka - 1 ≠ 0 := fun z => d5 (by rw [z]; rfl)
              by_cases d6 : (decide (ka - k < 7) && decide (kb - 1 - k2 < 7)) = true
              · rw [if_pos d6]
                exact wpS_pure ⟨.inr ⟨⟨rfl, hp4, (by show 0 < ka - 1; omega), (by show 1 < k2; omega)⟩, (by show ka - 1 + (k2) + 1 ≤ na + nb; omega)⟩, _, rfl⟩
              · rw [if_neg d6]
                exact wpS_pure ⟨⟨⟨rfl, hp4, (by show 0 < ka - 1; omega), (by show 1 < k2; omega)⟩, (by show ka - 1 + (k2) + 1 ≤ na + nb; omega)⟩, _, rfl⟩
            · rw [if_neg k20]
              refine wpS_bind (el_at (show ka - 1 < a.size by omega) ?_)
              try dsimp only
              have hp4 := prmh_a1 hp2 (show 0 < ka by omega)
              by_cases d5 : (ka - 1 == 0) = true
              · rw [if_pos d5]
                exact wpS_pure ⟨.inl ⟨_, rfl, prmh_done hp4⟩, _, rfl⟩
              rw [if_neg d5]
              have d5' : ka - 1 ≠ 0 := fun z => d5 (by rw [z]; rfl)
              by_cases d6 : (decide (ka - k < 7) && decide (kb - 1 - k2 < 7)) = true
              · rw [if_pos d6]
                exact wpS_pure ⟨.inr ⟨⟨rfl, hp4, (by show 0 < ka - 1; omega), (by show 1 < kb - 1; omega)⟩, (by show ka - 1 + (kb - 1) + 1 ≤ na + nb; omega)⟩, _, rfl⟩
              · rw [if_neg d6]
                exact wpS_pure ⟨⟨⟨rfl, hp4, (by show 0 < ka - 1; omega), (by show 1 < kb - 1; omega)⟩, (by show ka - 1 + (kb - 1) + 1 ≤ na + nb; omega)⟩, _, rfl⟩
        · rw [if_neg mm]
          refine wpS_bind (wpS_modify ?_)
          refine wpS_bind (el_at (show kb - 1 < b.size by omega) ?_)
          refine wpS_bind (gallop_at hq (eb (by omega)) ha (by omega) (by omega) hκ fun k hk => ?_)
          try dsimp only
          by_cases k0 : ka - k > 0
          · rw [if_pos k0]
            have hp1 := prmh_a hp k hk
            by_cases d1 : (k == 0) = true
            · rw [if_pos d1]
              exact wpS_pure ⟨.inl ⟨_, rfl, prmh_done hp1⟩, _, rfl⟩
            rw [if_neg d1]
            have d1' : k ≠ 0 := fun z => d1 (by rw [z]; rfl)
            refine wpS_bind (el_at (show kb - 1 < b.size by omega) ?_)
            try dsimp only
            have hp2 := prmh_b1 hp1 (show 0 < kb by omega)
            by_cases d3 : (kb - 1 == 1) = true
            · rw [if_pos d3]
              exact wpS_pure ⟨.inl ⟨_, rfl, prmh_first hp2⟩, _, rfl⟩
            rw [if_neg d3]
            have d3' : kb - 1 ≠ 1 := fun z => d3 (by rw [z]; rfl)
            refine wpS_bind (el_at (show k - 1 < a.size by omega) ?_)
            refine wpS_bind (gallop_at hq (ea (by omega)) hb (by omega) (by omega) hκ fun k2 hk2 => ?_)
            try dsimp only
            by_cases k20 : kb - 1 - k2 > 0
            · rw [if_pos k20]
              have hp3 := prmh_b hp2 k2 hk2
              by_cases d4 : (k2 == 1) = true
              · rw [if_pos d4]
                exact wpS_pure ⟨.inl ⟨_, rfl, prmh_first hp3⟩, _, rfl⟩
              rw [if_neg d4]
              have d4' : k2 ≠ 1 := fun z => d4 (by rw [z]; rfl)
              by_cases d7 : (k2 == 0) = true
              · rw [if_pos d7]
                exact wpS_pure ⟨.inl ⟨_, rfl, prmh_done hp3⟩, _, rfl⟩
              rw [if_neg d7]
              have d7' : k2 ≠ 0 := fun z => d7 (by rw [z]; rfl)
              refine wpS_bind (el_at (show k - 1 < a.size by omega) ?_)
              try dsimp only
              have hp4 := prmh_a1 hp3 (show 0 < k by omega)
              by_cases d5 : (k - 1 == 0) = true
              · rw [if_pos d5]
                exact wpS_pure ⟨.inl ⟨_, rfl, prmh_done hp4⟩, _, rfl⟩
              rw [if_neg d5]
              have d5' : k - 1 ≠ 0 := fun z => d5 (by rw [z]; rfl)
              by_cases d6 : (decide (ka - k < 7) && decide (kb - 1 - k2 < 7)) = true
              · rw [if_pos d6]
                exact wpS_pure ⟨.inr ⟨⟨rfl, hp4, (by show 0 < k - 1; omega), (by show 1 < k2; omega)⟩, (by show k - 1 + (k2) + 1 ≤ na + nb; omega)⟩, _, rfl⟩
              · rw [if_neg d6]
                exact wpS_pure ⟨⟨⟨rfl, hp4, (by show 0 < k - 1; omega), (by show 1 < k2; omega)⟩, (by show k - 1 + (k2) + 1 ≤ na + nb; omega)⟩, _, rfl⟩
            · rw [if_neg k20]
              refine wpS_bind (el_at (show k - 1 < a.size by omega) ?_)
              try dsimp only
              have hp4 := prmh_a1 hp2 (show 0 < k by omega)
              by_cases d5 : (k - 1 == 0) = true
              · rw [if_pos d5]
                exact wpS_pure ⟨.inl ⟨_, rfl, prmh_done hp4⟩, _, rfl⟩
              rw [if_neg d5]
              have d5' : k - 1 ≠ 0 := fun z => d5 (by rw [z]; rfl)
              by_cases d6 : (decide (ka - k < 7) && decide (kb - 1 - k2 < 7)) = true
              · rw [if_pos d6]
                exact wpS_pure ⟨.inr ⟨⟨rfl, hp4, (by show 0 < k - 1; omega), (by show 1 < kb - 1; omega)⟩, (by show k - 1 + (kb - 1) + 1 ≤ na + nb; omega)⟩, _, rfl⟩
              · rw [if_neg d6]
                exact wpS_pure ⟨⟨⟨rfl, hp4, (by show 0 < k - 1; omega), (by show 1 < kb - 1; omega)⟩, (by show k - 1 + (kb - 1) + 1 ≤ na + nb; omega)⟩, _, rfl⟩
          · rw [if_neg k0]
            refine wpS_bind (el_at (show kb - 1 < b.size by omega) ?_)
            try dsimp only
            have hp2 := prmh_b1 hp (show 0 < kb by omega)
            by_cases d3 : (kb - 1 == 1) = true
            · rw [if_pos d3]
              exact wpS_pure ⟨.inl ⟨_, rfl, prmh_first hp2⟩, _, rfl⟩
            rw [if_neg d3]
            have d3' : kb - 1 ≠ 1 := fun z => d3 (by rw [z]; rfl)
            refine wpS_bind (el_at (show ka - 1 < a.size by omega) ?_)
            refine wpS_bind (gallop_at hq (ea (by omega)) hb (by omega) (by omega) hκ fun k2 hk2 => ?_)
            try dsimp only
            by_cases k20 : kb - 1 - k2 > 0
            · rw [if_pos k20]
              have hp3 := prmh_b hp2 k2 hk2
              by_cases d4 : (k2 == 1) = true
              · rw [if_pos d4]
                exact wpS_pure ⟨.inl ⟨_, rfl, prmh_first hp3⟩, _, rfl⟩
              rw [if_neg d4]
              have d4' : k2 ≠ 1 := fun z => d4 (by rw [z]; rfl)
              by_cases d7 : (k2 == 0) = true
              · rw [if_pos d7]
                exact wpS_pure ⟨.inl ⟨_, rfl, prmh_done hp3⟩, _, rfl⟩
              rw [if_neg d7]
              have d7' : k2 ≠ 0 := fun z => d7 (by rw [z]; rfl)
              refine wpS_bind (el_at (show ka - 1 < a.size by omega) ?_)
              try dsimp only
              have hp4 := prmh_a1 hp3 (show 0 < ka by omega)
              by_cases d5 : (ka - 1 == 0) = true
              · rw [if_pos d5]
                exact wpS_pure ⟨.inl ⟨_, rfl, prmh_done hp4⟩, _, rfl⟩
              rw [if_neg d5]
              have d5' : ka - 1 ≠ 0 := fun z => d5 (by rw [z]; rfl)
              by_cases d6 : (decide (ka - k < 7) && decide (kb - 1 - k2 < 7)) = true
              · rw [if_pos d6]
                exact wpS_pure ⟨.inr ⟨⟨rfl, hp4, (by show 0 < ka - 1; omega), (by show 1 < k2; omega)⟩, (by show ka - 1 + (k2) + 1 ≤ na + nb; omega)⟩, _, rfl⟩
              · rw [if_neg d6]
                exact wpS_pure ⟨⟨⟨rfl, hp4, (by show 0 < ka - 1; omega), (by show 1 < k2; omega)⟩, (by show ka - 1 + (k2) + 1 ≤ na + nb; omega)⟩, _, rfl⟩
            · rw [if_neg k20]
              refine wpS_bind (el_at (show ka - 1 < a.size by omega) ?_)
              try dsimp only
              have hp4 := prmh_a1 hp2 (show 0 < ka by omega)
              by_cases d5 : (ka - 1 == 0) = true
              · rw [if_pos d5]
                exact wpS_pure ⟨.inl ⟨_, rfl, prmh_done hp4⟩, _, rfl⟩
              rw [if_neg d5]
              have d5' : ka - 1 ≠ 0 := fun z => d5 (by rw [z]; rfl)
              by_cases d6 : (decide (ka - k < 7) && decide (kb - 1 - k2 < 7)) = true
              · rw [if_pos d6]
                exact wpS_pure ⟨.inr ⟨⟨rfl, hp4, (by show 0 < ka - 1; omega), (by show 1 < kb - 1; omega)⟩, (by show ka - 1 + (kb - 1) + 1 ≤ na + nb; omega)⟩, _, rfl⟩
              · rw [if_neg d6]
                exact wpS_pure ⟨⟨⟨rfl, hp4, (by show 0 < ka - 1; omega), (by show 1 < kb - 1; omega)⟩, (by show ka - 1 + (kb - 1) + 1 ≤ na + nb; omega)⟩, _, rfl⟩
      · rintro ⟨r2, ka, kb, out, mg2, ac2, bc2⟩ st' ⟨hc, g, rfl⟩
        dsimp only at hc ⊢
        rcases hc with ⟨r, rfl, hr⟩ | ⟨⟨rfl, hp, hka, hkb⟩, hl2⟩
        · exact wpS_pure ⟨r, rfl, hr, _, rfl⟩
        dsimp only
        refine wpS_bind (wpS_modify (wpS_pure ⟨⟨⟨rfl, hp, hka, hkb⟩, (by show ka + kb + (x + 1) + 1 ≤ a.size + b.size; omega)⟩, _, rfl⟩))
  · rintro c st' ⟨⟨⟨e0, hp, hna, hnb⟩, hlo⟩, _⟩
    exfalso
    omega
  · rintro ⟨r0, na, nb, out, mg⟩ st' ⟨r, e, hr, g, rfl⟩
    dsimp only at e ⊢
    subst e
    exact wpS_pure (h r g hr)
end
end L2
set_option Elab.async false
set_option linter.all false
set_option maxRecDepth 100000
set_option maxHeartbeats 4000000
namespace L2
open PySem PySem.Spec PyProof.Rows
section
variable {prog : Program} {w : World} {A : Around} {E : Value → Shared → Prop} {s : Shared} {a₀ : Array Keyed} {κ : SortKind}
theorem ltAt_at (hq : QL prog w A E s κ a₀) {i j : Nat} {st : SortSt} {Q : Option Bool → SortSt → Prop} (hp : (arrOf st).Perm a₀) (hi : i < a₀.size) (hj : j < a₀.size) (hκ : kindOf st = κ) (h : ∀ b, Q (some b) st) : wpS (model prog w) A E s (ltAt' i j) Q st := by
  have sz : (arrOf st).size = a₀.size := hp.size_eq
  rw [ltAt'_eq]
  refine wpS_bind (wpS_get ?_)
  refine wpS_bind (el_at (show i < (arrOf st).size by omega) (wpS_bind (el_at (show j < (arrOf st).size by omega) ?_)))
  exact hq _ _ _ _ (hp.mem_iff.mp (Array.getElem_mem _)) (hp.mem_iff.mp (Array.getElem_mem _)) hκ h
theorem count_at (hq : QL prog w A E s κ a₀) {lo nrem : Nat} {st : SortSt} {Q : Option Nat → SortSt → Prop} (hp : (arrOf st).Perm a₀) (h1 : 1 ≤ nrem) (hz : lo + nrem ≤ a₀.size) (hκ : kindOf st = κ)
    (h : ∀ m xs, 1 ≤ m → m ≤ nrem → xs.Perm a₀ → Q (some m) (setArr st xs)) : wpS (model prog w) A E s (countRun' lo nrem) Q st := by
  refine wpS_bind (wpS_mono (wpS_forRange (I := fun x (c : Option (Option Nat) × Nat) st' => st = st' ∧ c.1 = none ∧ 1 ≤ c.2 ∧ c.2 ≤ x) (Q := fun c st' => st = st' ∧ c.1 = none ∧ 1 ≤ c.2 ∧ c.2 ≤ nrem) ?_ ?_ ⟨rfl, rfl, Nat.le_refl _, Nat.le_refl _⟩) ?_)
  · rintro x ⟨r, n⟩ st' hx1 hx ⟨rfl, e, hn1, hn2⟩
    dsimp only at e hn1 hn2 ⊢
    refine wpS_bind (ltAt_at hq hp (by omega) (by omega) hκ fun b => ?_)
    cases b with
    | true => exact wpS_pure ⟨rfl, rfl, hn1, (by show n ≤ nrem; omega)⟩
    | false => exact wpS_pure ⟨rfl, rfl, (by show 1 ≤ n + 1; omega), (by show n + 1 ≤ x + 1; omega)⟩
  · rintro c st' ⟨e, e1, hn1, hn2⟩
    exact ⟨e, e1, hn1, by omega⟩
  rintro ⟨r, n⟩ st' ⟨rfl, e, hn1, hn2⟩
  dsimp only at e hn1 hn2 ⊢
  subst e
  dsimp only
  by_cases c1 : (n == nrem) = true
  · rw [if_pos c1]
    exact wpS_pure (h n (arrOf st) hn1 hn2 hp)
  rw [if_neg c1]
  have c1' : n ≠ nrem := fun z => c1 (by rw [z]; exact beq_self_eq_true _)
  by_cases c2 : n > 1
  · rw [if_pos c2]
    refine wpS_bind (ltAt_at hq hp (by omega) (by omega) hκ fun b => ?_)
    cases b with
    | true => exact wpS_pure (h n (arrOf st) hn1 hn2 hp)
    | false =>
      refine wpS_bind (wpS_modify ?_)
      refine wpS_bind (wpS_lift (wpAny_rule ⟨rfl, ?_⟩))
      refine wpS_bind (wpS_mono (wpS_forRange (I := fun x (c : Option (Option Nat) × Nat × Nat) st' => (c.1 = none ∧ 1 ≤ c.2.1 ∧ c.2.1 ≤ x) ∧ ∃ xs, xs.Perm a₀ ∧ st' = setArr st xs) (Q := fun c st' => (c.1 = none ∧ 1 ≤ c.2.1 ∧ c.2.1 ≤ nrem) ∧ ∃ xs, xs.Perm a₀ ∧ st' = setArr st xs) ?_ ?_ ⟨⟨rfl, (by show 1 ≤ n + 1; omega), Nat.le_refl _⟩, _, ((mirror_perm _ _ _ _).trans hp), rfl⟩) ?_)
      · rintro x ⟨r, n2, q2⟩ st' hx1 hx ⟨⟨e, hn1, hn2⟩, xs, px, rfl⟩
        dsimp only at e hn1 hn2 ⊢
        refine wpS_bind (ltAt_at hq px (by omega) (by omega) hκ fun b => ?_)
        cases b with
        | true =>
          try dsimp only
          rw [if_pos rfl]
          by_cases qq : q2 > 0
          · rw [if_pos qq]
            exact wpS_bind (wpS_modify (wpS_pure ⟨⟨rfl, (by show 1 ≤ n2 + 1; omega), (by show n2 + 1 ≤ x + 1; omega)⟩, _, (mirror_perm _ _ _ _).trans px, rfl⟩))
          · rw [if_neg qq]
            exact wpS_pure ⟨⟨rfl, (by show 1 ≤ n2 + 1; omega), (by show n2 + 1 ≤ x + 1; omega)⟩, _, px, rfl⟩
        | false =>
          refine wpS_bind (ltAt_at hq px (by omega) (by omega) hκ fun b => ?_)
          cases b with
          | true => exact wpS_pure ⟨⟨rfl, hn1, (by show n2 ≤ nrem; omega)⟩, _, px, rfl⟩
          | false => exact wpS_pure ⟨⟨rfl, (by show 1 ≤ n2 + 1; omega), (by show n2 + 1 ≤ x + 1; omega)⟩, _, px, rfl⟩
      · rintro c st' ⟨⟨e, hn1, hn2⟩, z⟩
        exact ⟨⟨e, hn1, by omega⟩, z⟩
      · rintro ⟨r, n2, q2⟩ st' ⟨⟨e, hn1, hn2⟩, xs2, px2, rfl⟩
        dsimp only at e hn1 hn2 ⊢
        subst e
        dsimp only
        by_cases qq : q2 > 0
        · rw [if_pos qq]
          refine wpS_bind (wpS_modify ?_)
          refine wpS_bind (wpS_modify ?_)
          refine wpS_bind (wpS_mono (wpS_forRange (I := fun x (c : Option (Option Nat) × Nat) st' => (c.1 = none ∧ 1 ≤ c.2 ∧ c.2 ≤ x) ∧ ∃ xs, xs.Perm a₀ ∧ st' = setArr st xs) (Q := fun c st' => (c.1 = none ∧ 1 ≤ c.2 ∧ c.2 ≤ nrem) ∧ ∃ xs, xs.Perm a₀ ∧ st' = setArr st xs) ?_ ?_ ⟨⟨rfl, (by show 1 ≤ n2; omega), Nat.le_refl _⟩, _, (mirror_perm _ _ _ _).trans ((mirror_perm _ _ _ _).trans px2), rfl⟩) ?_)
          · rintro x ⟨r, n3⟩ st' hx1 hx ⟨⟨e, hn1, hn2'⟩, xs, px, rfl⟩
            dsimp only at e hn1 hn2' ⊢
            refine wpS_bind (ltAt_at hq px (by omega) (by omega) hκ fun b => ?_)
            cases b with
            | true => exact wpS_pure ⟨⟨rfl, hn1, (by show n3 ≤ nrem; omega)⟩, _, px, rfl⟩
            | false => exact wpS_pure ⟨⟨rfl, (by show 1 ≤ n3 + 1; omega), (by show n3 + 1 ≤ x + 1; omega)⟩, _, px, rfl⟩
          · rintro c st' ⟨⟨e, hn1, hn2'⟩, z⟩
            exact ⟨⟨e, hn1, by omega⟩, z⟩
          · rintro ⟨r, n3⟩ st' ⟨⟨e, hn1, hn2'⟩, xs, px, rfl⟩
            dsimp only at e hn1 hn2' ⊢
            subst e
            exact wpS_pure (h n3 xs hn1 hn2' px)
        · rw [if_neg qq]
          refine wpS_bind (wpS_modify ?_)
          refine wpS_bind (wpS_mono (wpS_forRange (I := fun x (c : Option (Option Nat) × Nat) st' => (c.1 = none ∧ 1 ≤ c.2 ∧ c.2 ≤ x) ∧ ∃ xs, xs.Perm a₀ ∧ st' = setArr st xs) (Q := fun c st' => (c.1 = none ∧ 1 ≤ c.2 ∧ c.2 ≤ nrem) ∧ ∃ xs, xs.Perm a₀ ∧ st' = setArr st xs) ?_ ?_ ⟨⟨rfl, (by show 1 ≤ n2; omega), Nat.le_refl _⟩, _, (mirror_perm _ _ _ _).trans px2, rfl⟩) ?_)
          · rintro x ⟨r, n3⟩ st' hx1 hx ⟨⟨e, hn1, hn2'⟩, xs, px, rfl⟩
            dsimp only at e hn1 hn2' ⊢
            refine wpS_bind (ltAt_at hq px (by omega) (by omega) hκ fun b => ?_)
            cases b with
            | true => exact wpS_pure ⟨⟨rfl, hn1, (by show n3 ≤ nrem; omega)⟩, _, px, rfl⟩
            | false => exact wpS_pure ⟨⟨rfl, (by show 1 ≤ n3 + 1; omega), (by show n3 + 1 ≤ x + 1; omega)⟩, _, px, rfl⟩
          · rintro c st' ⟨⟨e, hn1, hn2'⟩, z⟩
            exact ⟨⟨e, hn1, by omega⟩, z⟩
          · rintro ⟨r, n3⟩ st' ⟨⟨e, hn1, hn2'⟩, xs, px, rfl⟩
            dsimp only at e hn1 hn2' ⊢
            subst e
            exact wpS_pure (h n3 xs hn1 hn2' px)
  · rw [if_neg c2]
    refine wpS_bind (wpS_lift (wpAny_rule ⟨rfl, ?_⟩))
    refine wpS_bind (wpS_mono (wpS_forRange (I := fun x (c : Option (Option Nat) × Nat × Nat) st' => (c.1 = none ∧ 1 ≤ c.2.1 ∧ c.2.1 ≤ x) ∧ ∃ xs, xs.Perm a₀ ∧ st' = setArr st xs) (Q := fun c st' => (c.1 = none ∧ 1 ≤ c.2.1 ∧ c.2.1 ≤ nrem) ∧ ∃ xs, xs.Perm a₀ ∧ st' = setArr st xs) ?_ ?_ ⟨⟨rfl, (by show 1 ≤ n + 1; omega), Nat.le_refl _⟩, _, hp, rfl⟩) ?_)
    · rintro x ⟨r, n2, q2⟩ st' hx1 hx ⟨⟨e, hn1, hn2⟩, xs, px, rfl⟩
      dsimp only at e hn1 hn2 ⊢
      refine wpS_bind (ltAt_at hq px (by omega) (by omega) hκ fun b => ?_)
      cases b with
      | true =>
        try dsimp only
        rw [if_pos rfl]
        by_cases qq : q2 > 0
        · rw [if_pos qq]
          exact wpS_bind (wpS_modify (wpS_pure ⟨⟨rfl, (by show 1 ≤ n2 + 1; omega), (by show n2 + 1 ≤ x + 1; omega)⟩, _, (mirror_perm _ _ _ _).trans px, rfl⟩))
        · rw [if_neg qq]
          exact wpS_pure ⟨⟨rfl, (by show 1 ≤ n2 + 1; omega), (by show n2 + 1 ≤ x + 1; omega)⟩, _, px, rfl⟩
      | false =>
        refine wpS_bind (ltAt_at hq px (by omega) (by omega) hκ fun b => ?_)
        cases b with
        | true => exact wpS_pure ⟨⟨rfl, hn1, (by show n2 ≤ nrem; omega)⟩, _, px, rfl⟩
        | false => exact wpS_pure ⟨⟨rfl, (by show 1 ≤ n2 + 1; omega), (by show n2 + 1 ≤ x + 1; omega)⟩, _, px, rfl⟩
    · rintro c st' ⟨⟨e, hn1, hn2⟩, z⟩
      exact ⟨⟨e, hn1, by omega⟩, z⟩
    · rintro ⟨r, n2, q2⟩ st' ⟨⟨e, hn1, hn2⟩, xs2, px2, rfl⟩
      dsimp only at e hn1 hn2 ⊢
      subst e
      dsimp only
      by_cases qq : q2 > 0
      · rw [if_pos qq]
        refine wpS_bind (wpS_modify ?_)
        refine wpS_bind (wpS_modify ?_)
        refine wpS_bind (wpS_mono (wpS_forRange (I := fun x (c : Option (Option Nat) × Nat) st' => (c.1 = none ∧ 1 ≤ c.2 ∧ c.2 ≤ x) ∧ ∃ xs, xs.Perm a₀ ∧ st' = setArr st xs) (Q := fun c st' => (c.1 = none ∧ 1 ≤ c.2 ∧ c.2 ≤ nrem) ∧ ∃ xs, xs.Perm a₀ ∧ st' = setArr st xs) ?_ ?_ ⟨⟨rfl, (by show 1 ≤ n2; omega), Nat.le_refl _⟩, _, (mirror_perm _ _ _ _).trans ((mirror_perm _ _ _ _).trans px2), rfl⟩) ?_)
        · rintro x ⟨r, n3⟩ st' hx1 hx ⟨⟨e, hn1, hn2'⟩, xs, px, rfl⟩
          dsimp only at e hn1 hn2' ⊢
          refine wpS_bind (ltAt_at hq px (by omega) (by omega) hκ fun b => ?_)
          cases b with
          | true => exact wpS_pure ⟨⟨rfl, hn1, (by show n3 ≤ nrem; omega)⟩, _, px, rfl⟩
          | false => exact wpS_pure ⟨⟨rfl, (by show 1 ≤ n3 + 1; omega), (by show n3 + 1 ≤ x + 1; omega)⟩, _, px, rfl⟩
        · rintro c st' ⟨⟨e, hn1, hn2'⟩, z⟩
          exact ⟨⟨e, hn1, by omega⟩, z⟩
        · rintro ⟨r, n3⟩ st' ⟨⟨e, hn1, hn2'⟩, xs, px, rfl⟩
          dsimp only at e hn1 hn2' ⊢
          subst e
          exact wpS_pure (h n3 xs hn1 hn2' px)
      · rw [if_neg qq]
        refine wpS_bind (wpS_modify ?_)
        refine wpS_bind (wpS_mono (wpS_forRange (I := fun x (c : Option (Option Nat) × Nat) st' => (c.1 = none ∧ 1 ≤ c.2 ∧ c.2 ≤ x) ∧ ∃ xs, xs.Perm a₀ ∧ st' = setArr st xs) (Q := fun c st' => (c.1 = none ∧ 1 ≤ c.2 ∧ c.2 ≤ nrem) ∧ ∃ xs, xs.Perm a₀ ∧ st' = setArr st xs) ?_ ?_ ⟨⟨rfl, (by show 1 ≤ n2; omega), Nat.le_refl _⟩, _, (mirror_perm _ _ _ _).trans px2, rfl⟩) ?_)
        · rintro x ⟨r, n3⟩ st' hx1 hx ⟨⟨e, hn1, hn2'⟩, xs, px, rfl⟩
          dsimp only at e hn1 hn2' ⊢
          refine wpS_bind (ltAt_at hq px (by omega) (by omega) hκ fun b => ?_)
          cases b with
          | true => exact wpS_pure ⟨⟨rfl, hn1, (by show n3 ≤ nrem; omega)⟩, _, px, rfl⟩
          | false => exact wpS_pure ⟨⟨rfl, (by show 1 ≤ n3 + 1; omega), (by show n3 + 1 ≤ x + 1; omega)⟩, _, px, rfl⟩
        · rintro c st' ⟨⟨e, hn1, hn2'⟩, z⟩
          exact ⟨⟨e, hn1, by omega⟩, z⟩
        · rintro ⟨r, n3⟩ st' ⟨⟨e, hn1, hn2'⟩, xs, px, rfl⟩
          dsimp only at e hn1 hn2' ⊢
          subst e
          exact wpS_pure (h n3 xs hn1 hn2' px)
theorem bin_at (hq : QL prog w A E s κ a₀) {lo n ok : Nat} {st : SortSt} {Q : Bool → SortSt → Prop} (hp : (arrOf st).Perm a₀) (hz : lo + n ≤ a₀.size) (hκ : kindOf st = κ)
    (h : ∀ xs, xs.Perm a₀ → Q true (setArr st xs)) : wpS (model prog w) A E s (binarySort' lo n ok) Q st := by
  refine wpS_bind (wpS_mono (wpS_forRange (I := fun x (c : Option Bool × Unit) st' => c.1 = none ∧ ∃ xs, xs.Perm a₀ ∧ st' = setArr st xs) (Q := fun c st' => c.1 = none ∧ ∃ xs, xs.Perm a₀ ∧ st' = setArr st xs) ?_ (fun _ _ z => z) ⟨rfl, _, hp, rfl⟩) ?_)
  · rintro x ⟨r, u⟩ st' hx1 hx ⟨e, xs, px, rfl⟩
    dsimp only at e ⊢
    refine wpS_bind (wpS_mono (wpS_forRange (I := fun y (c : Option Bool × Nat × Nat) st' => c.1 = none ∧ c.2.2 ≤ x ∧ st' = setArr st xs) (Q := fun c st' => c.1 = none ∧ c.2.2 ≤ x ∧ st' = setArr st xs) ?_ (fun _ _ z => z) ⟨rfl, Nat.le_refl _, rfl⟩) ?_)
    · rintro y ⟨r1, l, r⟩ st' _ _ ⟨e1, hr, rfl⟩
      dsimp only at e1 hr ⊢
      by_cases c : l ≥ r
      · rw [if_pos c]
        exact wpS_pure ⟨rfl, hr, rfl⟩
      · rw [if_neg c]
        refine wpS_bind (ltAt_at hq px (by omega) (by omega) hκ fun b => ?_)
        cases b with
        | true => exact wpS_pure ⟨rfl, (by show (l + r) / 2 ≤ x; omega), rfl⟩
        | false => exact wpS_pure ⟨rfl, hr, rfl⟩
    · rintro ⟨r1, l, r⟩ st' ⟨e1, hr, rfl⟩
      dsimp only at e1 hr ⊢
      subst e1
      exact wpS_bind (wpS_modify (wpS_pure ⟨rfl, _, (bubble_perm _ _ _).trans px, rfl⟩))
  · rintro ⟨r, u⟩ st' ⟨e, xs, px, rfl⟩
    dsimp only at e ⊢
    subst e
    exact wpS_pure (h xs px)
end
end L2
set_option Elab.async false
set_option linter.all false
set_option maxRecDepth 100000
set_option maxHeartbeats 4000000
namespace L2
open PySem PySem.Spec PyProof.Rows
section
variable {prog : Program} {w : World} {A : Around} {E : Value → Shared → Prop} {s : Shared} {a₀ : Array Keyed} {κ : SortKind}
theorem set_all (sa : Nat) : ∀ (l : List Keyed) (k : Nat) (a : Array Keyed), sa + k + l.length ≤ a.size → ((l.zipIdx k).foldl (fun a (x : Keyed × Nat) => match x with | (p, j) => a.setIfInBounds (sa + j) p) a).toList = a.toList.take (sa + k) ++ l ++ a.toList.drop (sa + k + l.length)
  | [], k, a, _ => by simp
  | p :: l, k, a, h => by
    rw [List.zipIdx_cons, List.foldl_cons]
    have hk : sa + k < a.toList.length := by simp only [List.length_cons] at h; rw [Array.length_toList]; omega
    have := set_all sa l (k + 1) (a.setIfInBounds (sa + k) p) (by rw [Array.size_setIfInBounds]; simp only [List.length_cons] at h; omega)
    rw [this, Array.toList_setIfInBounds]
    have e1 : (a.toList.set (sa + k) p).take (sa + (k + 1)) = a.toList.take (sa + k) ++ [p] := by
      rw [show sa + (k + 1) = sa + k + 1 by omega, List.take_add_one, List.take_set_of_le (Nat.le_refl _), List.getElem?_set_self hk]
      rfl
    have e2 : (a.toList.set (sa + k) p).drop (sa + (k + 1) + l.length) = a.toList.drop (sa + k + (p :: l).length) := by
      rw [List.drop_set_of_lt (by omega), List.length_cons]
      congr 1
      omega
    rw [e1, e2]
    simp [List.append_assoc]
theorem merged_perm {a m : Array Keyed} {sa sb nb : Nat} (h1 : sa ≤ sb) (h2 : sb + nb ≤ a.size) (hm : m.toList.Perm ((a.extract sa sb).toList ++ (a.extract sb (sb + nb)).toList)) :
    (m.toList.zipIdx.foldl (fun a (x : Keyed × Nat) => match x with | (p, j) => a.setIfInBounds (sa + j) p) a).Perm a := by
  have lm : m.toList.length = sb + nb - sa := by
    rw [hm.length_eq, List.length_append, ext_list, ext_list, List.length_take, List.length_take, List.length_drop, List.length_drop, Array.length_toList]
    omega
  apply Array.perm_iff_toList_perm.mpr
  rw [set_all sa m.toList 0 a (by omega), Nat.add_zero]
  have e : a.toList = a.toList.take sa ++ ((a.toList.drop sa).take (sb - sa) ++ (a.toList.drop sb).take nb) ++ a.toList.drop (sa + m.toList.length) := by
    rw [lm, show sa + (sb + nb - sa) = sb + nb by omega]
    have x1 : (a.toList.drop sb).take nb ++ a.toList.drop (sb + nb) = a.toList.drop sb := by rw [← List.drop_drop, List.take_append_drop]
    have x2 : (a.toList.drop sa).take (sb - sa) ++ a.toList.drop sb = a.toList.drop sa := by
      have : a.toList.drop sb = (a.toList.drop sa).drop (sb - sa) := by rw [List.drop_drop, show sa + (sb - sa) = sb by omega]
      rw [this, List.take_append_drop]
    rw [List.append_assoc, List.append_assoc, x1, x2, List.take_append_drop]
  rw [ext_list, ext_k] at hm
  refine List.Perm.trans ((List.Perm.append_left _ hm).append_right _) ?_
  rw [← e]
theorem ext_mem {a : Array Keyed} {i j : Nat} {x : Keyed} (h : x ∈ a.extract i j) : x ∈ a := by
  have : x ∈ (a.extract i j).toList := Array.mem_toList_iff.mpr h
  rw [ext_list] at this
  exact Array.mem_toList_iff.mp (List.mem_of_mem_drop (List.mem_of_mem_take this))
theorem wpS_set {st st' : SortSt} {Q : PUnit → SortSt → Prop} (h : Q ⟨⟩ st') : wpS (model prog w) A E s (set st' : StateT SortSt Sem PUnit) Q st := by
  unfold wpS; rw [StateT.run_set]; exact wpAny_pure ⟨rfl, h⟩
abbrev pSt (st : SortSt) (xs : Array Keyed) (p : Array (Nat × Nat × Nat)) (g : Nat) : SortSt := SortSt.mk' (kindOf st) xs p g (failedOf st)
theorem mergeAt_at (hq : QL prog w A E s κ a₀) {i sa na p1 nb p2 : Nat} {st : SortSt} {Q : Bool → SortSt → Prop} (hp : (arrOf st).Perm a₀) (hκ : kindOf st = κ) (hf : failedOf st = none) (e1 : (pendingOf st)[i]? = some (sa, na, p1)) (e2 : (pendingOf st)[i + 1]? = some (sa + na, nb, p2)) (n1 : 0 < na) (n2 : 0 < nb) (hz : sa + na + nb ≤ a₀.size)
    (h : ∀ xs g, xs.Perm a₀ → Q true (pSt st xs (((pendingOf st).setIfInBounds i (sa, na + nb, p1)).eraseIdxIfInBounds (i + 1)) g)) : wpS (model prog w) A E s (mergeAt' i) Q st := by
  have sz : (arrOf st).size = a₀.size := hp.size_eq
  have mem : ∀ x, x ∈ arrOf st → x ∈ a₀ := fun x hx => hp.mem_iff.mp hx
  refine wpS_bind (wpS_get ?_)
  show wpS _ _ _ _ (match ((pendingOf st)[i]?, (pendingOf st)[i + 1]?) with | _ => _) _ _
  rw [e1, e2]
  dsimp only
  refine wpS_bind (wpS_set ?_)
  refine wpS_bind (el_at (show sa + na < (arrOf st).size by omega) ?_)
  refine wpS_bind (gallop_at hq (mem _ (Array.getElem_mem _)) mem (by show sa + na ≤ (arrOf st).size; omega) n1 hκ fun k hk => ?_)
  dsimp only
  by_cases c1 : (na - k == 0) = true
  · rw [if_pos c1]
    exact wpS_pure (h _ _ hp)
  rw [if_neg c1]
  have c1' : na - k ≠ 0 := fun z => c1 (by rw [z]; rfl)
  refine wpS_bind (el_at (show sa + k + (na - k) - 1 < (arrOf st).size by omega) ?_)
  refine wpS_bind (gallop_at hq (mem _ (Array.getElem_mem _)) mem (by show sa + na + nb ≤ (arrOf st).size; omega) (by omega) hκ fun m hm => ?_)
  dsimp only
  by_cases c2 : (m == 0) = true
  · rw [if_pos c2]
    exact wpS_pure (h _ _ hp)
  rw [if_neg c2]
  have c2' : m ≠ 0 := fun z => c2 (by rw [z]; rfl)
  have s1 : 0 < ((arrOf st).extract (sa + k) (sa + na)).size := by rw [Array.size_extract]; omega
  have s2 : 0 < ((arrOf st).extract (sa + na) (sa + na + m)).size := by rw [Array.size_extract]; omega
  by_cases c3 : na - k ≤ m
  · rw [if_pos c3]
    refine wpS_bind (lo_at hq (fun x hx => mem x (ext_mem hx)) (fun x hx => mem x (ext_mem hx)) s1 s2 hκ fun r g hr => ?_)
    refine wpS_bind (wpS_modify (wpS_bind (wpS_get (wpS_pure ?_))))
    show Q (failedOf st).isNone _
    rw [hf]
    exact h _ g ((merged_perm (by omega) (show sa + na + m ≤ (arrOf st).size by omega) hr).trans hp)
  · rw [if_neg c3]
    refine wpS_bind (hi_at hq (fun x hx => mem x (ext_mem hx)) (fun x hx => mem x (ext_mem hx)) s1 s2 hκ fun r g hr => ?_)
    refine wpS_bind (wpS_modify (wpS_bind (wpS_get (wpS_pure ?_))))
    show Q (failedOf st).isNone _
    rw [hf]
    exact h _ g ((merged_perm (by omega) (show sa + na + m ≤ (arrOf st).size by omega) hr).trans hp)
end
def Cov : List (Nat × Nat × Nat) → Nat → Nat → Prop
  | [], b, e => b = e
  | (a, n, _) :: r, b, e => a = b ∧ 0 < n ∧ Cov r (b + n) e
theorem Cov.le : ∀ {l : List (Nat × Nat × Nat)} {b e : Nat}, Cov l b e → b ≤ e
  | [], b, e, h => Nat.le_of_eq h
  | (a, n, _) :: r, b, e, h => Nat.le_trans (Nat.le_add_right _ _) (Cov.le h.2.2)
theorem Cov.push : ∀ {l : List (Nat × Nat × Nat)} {b e n p : Nat}, Cov l b e → 0 < n → Cov (l ++ [(e, n, p)]) b (e + n)
  | [], b, e, n, p, h, hn => by
    have h : b = e := h
    subst h
    exact ⟨rfl, hn, rfl⟩
  | (a, m, q) :: r, b, e, n, p, h, hn => ⟨h.1, h.2.1, Cov.push h.2.2 hn⟩
theorem Cov.at : ∀ {l : List (Nat × Nat × Nat)} {b e i a n p a' n' p' : Nat}, Cov l b e → l[i]? = some (a, n, p) → l[i + 1]? = some (a', n', p') → a' = a + n ∧ 0 < n ∧ 0 < n' ∧ a + n + n' ≤ e ∧ Cov ((l.set i (a, n + n', p)).eraseIdx (i + 1)) b e
  | (x, m, q) :: (x', m', q') :: r, b, e, 0, a, n, p, a', n', p', h, e1, e2 => by
    cases e1; cases e2
    obtain ⟨h1, h2, h3, h4, h5⟩ := h
    have := Cov.le h5
    refine ⟨by omega, h2, h4, by omega, h1, by omega, ?_⟩
    rw [← Nat.add_assoc]
    exact h5
  | (x, m, q) :: r, b, e, i + 1, a, n, p, a', n', p', h, e1, e2 => by
    obtain ⟨h1, h2, h3⟩ := h
    obtain ⟨g1, g2, g3, g4, g5⟩ := Cov.at h3 (by simpa using e1) (by simpa using e2)
    exact ⟨g1, g2, g3, g4, h1, h2, g5⟩
  | [], b, e, i, a, n, p, a', n', p', h, e1, e2 => by cases i <;> cases e1
  | [_], b, e, 0, a, n, p, a', n', p', h, e1, e2 => by simp at e2
theorem Cov.power (w : Nat) : ∀ {l : List (Nat × Nat × Nat)} {b e i : Nat}, Cov l b e → Cov (l.modify i fun x => (x.1, x.2.1, w)) b e
  | [], b, e, i, h => by cases i <;> exact h
  | (x, m, q) :: r, b, e, 0, h => h
  | (x, m, q) :: r, b, e, i + 1, h => ⟨h.1, h.2.1, Cov.power w h.2.2⟩
end L2
set_option Elab.async false
set_option linter.all false
set_option maxRecDepth 100000
set_option maxHeartbeats 4000000
namespace L2
open PySem PySem.Spec PyProof.Rows
section
variable {prog : Program} {w : World} {A : Around} {E : Value → Shared → Prop} {s : Shared} {a₀ : Array Keyed} {κ : SortKind}
def SIv (a₀ : Array Keyed) (κ : SortKind) (lo : Nat) (st : SortSt) : Prop := (arrOf st).Perm a₀ ∧ kindOf st = κ ∧ failedOf st = none ∧ Cov (pendingOf st).toList 0 lo ∧ lo ≤ a₀.size
theorem merge_iv (hq : QL prog w A E s κ a₀) {i lo : Nat} {st : SortSt} {Q : Bool → SortSt → Prop} (iv : SIv a₀ κ lo st) (hi : i + 1 < (pendingOf st).size) (h : ∀ st', SIv a₀ κ lo st' → Q true st') : wpS (model prog w) A E s (mergeAt' i) Q st := by
  obtain ⟨h1, h2, h3, h4, h5⟩ := iv
  have e1 : (pendingOf st)[i]? = some (pendingOf st)[i] := Array.getElem?_eq_getElem (by omega)
  have e2 : (pendingOf st)[i + 1]? = some (pendingOf st)[i + 1] := Array.getElem?_eq_getElem hi
  generalize (pendingOf st)[i] = u1 at e1
  generalize (pendingOf st)[i + 1] = u2 at e2
  obtain ⟨sa, na, p1⟩ := u1
  obtain ⟨sb, nb, p2⟩ := u2
  obtain ⟨g1, g2, g3, g4, g5⟩ := h4.at (i := i) (by rw [Array.getElem?_toList]; exact e1) (by rw [Array.getElem?_toList]; exact e2)
  subst g1
  refine mergeAt_at hq h1 h2 h3 e1 e2 g2 g3 (by omega) fun xs g px => h _ ⟨px, h2, h3, ?_, h5⟩
  show Cov (((pendingOf st).setIfInBounds i (sa, na + nb, p1)).eraseIdxIfInBounds (i + 1)).toList 0 lo
  have : (((pendingOf st).setIfInBounds i (sa, na + nb, p1)).eraseIdxIfInBounds (i + 1)).toList = ((pendingOf st).toList.set i (sa, na + nb, p1)).eraseIdx (i + 1) := by simp
  rw [this]
  exact g5
theorem ite_lt {c : Prop} [Decidable c] {x y z : Nat} (h1 : x + 1 < z) (h2 : y + 1 < z) : (if c then x else y) + 1 < z := by
  by_cases h : c
  · rw [if_pos h]; exact h1
  · rw [if_neg h]; exact h2
theorem push_iv {lo n : Nat} {st : SortSt} (iv : SIv a₀ κ lo st) (hn : 0 < n) (hz : lo + n ≤ a₀.size) : SIv a₀ κ (lo + n) (setPending st ((pendingOf st).push (lo, n, 0))) := by
  obtain ⟨h1, h2, h3, h4, h5⟩ := iv
  refine ⟨h1, h2, h3, ?_, hz⟩
  show Cov ((pendingOf st).push (lo, n, 0)).toList 0 (lo + n)
  rw [Array.toList_push]
  exact h4.push hn
theorem power_iv {lo j w : Nat} {st : SortSt} (iv : SIv a₀ κ lo st) : SIv a₀ κ lo (setPending st ((pendingOf st).modify j fun x => (x.1, x.2.1, w))) := by
  obtain ⟨h1, h2, h3, h4, h5⟩ := iv
  refine ⟨h1, h2, h3, ?_, h5⟩
  show Cov ((pendingOf st).modify j fun x => (x.1, x.2.1, w)).toList 0 lo
  rw [Array.toList_modify]
  exact h4.power w
theorem runs_at (hq : QL prog w A E s κ a₀) {st : SortSt} {Q : Unit → SortSt → Prop} (iv : SIv a₀ κ 0 st) (h : ∀ st', (arrOf st').Perm a₀ → failedOf st' = none → Q () st') : wpS (model prog w) A E s sortRuns' Q st := by
  have sz : (arrOf st).size = a₀.size := iv.1.size_eq
  rw [sortRuns'_eq]
  refine wpS_bind (wpS_get ?_)
  dsimp only
  rw [sz]
  refine wpS_bind (wpS_mono (wpS_forRange (I := fun x (c : Option Unit × Nat) st' => c.1 = none ∧ SIv a₀ κ c.2 st') (Q := fun c st' => c.1 = none ∧ SIv a₀ κ c.2 st') ?_ (fun _ _ z => z) ⟨rfl, iv⟩) ?_)
  · rintro x ⟨r, lo⟩ st' _ hx ⟨e, iv⟩
    dsimp only at e iv ⊢
    by_cases c1 : lo ≥ a₀.size
    · rw [if_pos c1]
      exact wpS_pure ⟨rfl, iv⟩
    rw [if_neg c1]
    refine wpS_bind (count_at hq iv.1 (by omega) (by omega) iv.2.1 fun m xs hm1 hm2 px => ?_)
    dsimp only
    have iv1 : SIv a₀ κ lo (setArr st' xs) := ⟨px, iv.2.1, iv.2.2.1, iv.2.2.2.1, iv.2.2.2.2⟩
    by_cases c2 : m < minRun' a₀.size a₀.size 0
    · rw [if_pos c2]
      generalize minRun' a₀.size a₀.size 0 = mr at *
      refine wpS_bind (wpS_lift (wpAny_rule ⟨rfl, ?_⟩))
      refine wpS_bind (bin_at hq px (by omega) iv.2.1 fun ys py => ?_)
      rw [if_neg (by simp)]
      have iv2 : SIv a₀ κ lo (setArr st' ys) := ⟨py, iv.2.1, iv.2.2.1, iv.2.2.2.1, iv.2.2.2.2⟩
      refine wpS_bind (wpS_get ?_)
      cases eb : (pendingOf (setArr st' ys)).back? with
      | none =>
        dsimp only
        exact wpS_bind (wpS_modify (wpS_pure ⟨rfl, push_iv iv2 (by omega) (by omega)⟩))
      | some q =>
        obtain ⟨s1, n1, p1⟩ := q
        dsimp only
        refine wpS_bind (wpS_mono (wpS_forRange (I := fun _ (c : Option Unit × Unit) st2 => c.1 = none ∧ SIv a₀ κ lo st2) (Q := fun c st2 => c.1 = none ∧ SIv a₀ κ lo st2) ?_ (fun _ _ z => z) ⟨rfl, iv2⟩) ?_)
        · rintro y ⟨r2, u⟩ st2 _ _ ⟨e2, iv2⟩
          dsimp only at e2 iv2 ⊢
          refine wpS_bind (wpS_get ?_)
          by_cases c2 : (pendingOf st2).size > 1
          · rw [if_pos c2, Array.getElem?_eq_getElem (show (pendingOf st2).size - 2 < (pendingOf st2).size by omega)]
            generalize (pendingOf st2)[(pendingOf st2).size - 2] = q3
            obtain ⟨q31, q32, q33⟩ := q3
            dsimp only
            split
            · exact wpS_pure ⟨rfl, iv2⟩
            · exact wpS_bind (merge_iv hq iv2 (by omega) fun st3 iv3 => wpS_pure ⟨rfl, iv3⟩)
          · rw [if_neg c2]
            exact wpS_pure ⟨rfl, iv2⟩
        · rintro ⟨r2, u⟩ st2 ⟨e2, iv2⟩
          dsimp only at e2 iv2 ⊢
          subst e2
          exact wpS_bind (wpS_modify (wpS_bind (wpS_modify (wpS_pure ⟨rfl, push_iv (power_iv iv2) (by omega) (by omega)⟩))))
    · rw [if_neg c2]
      refine wpS_bind (wpS_get ?_)
      cases eb : (pendingOf (setArr st' xs)).back? with
      | none =>
        dsimp only
        exact wpS_bind (wpS_modify (wpS_pure ⟨rfl, push_iv iv1 (by omega) (by omega)⟩))
      | some q =>
        obtain ⟨s1, n1, p1⟩ := q
        dsimp only
        refine wpS_bind (wpS_mono (wpS_forRange (I := fun _ (c : Option Unit × Unit) st2 => c.1 = none ∧ SIv a₀ κ lo st2) (Q := fun c st2 => c.1 = none ∧ SIv a₀ κ lo st2) ?_ (fun _ _ z => z) ⟨rfl, iv1⟩) ?_)
        · rintro y ⟨r2, u⟩ st2 _ _ ⟨e2, iv2⟩
          dsimp only at e2 iv2 ⊢
          refine wpS_bind (wpS_get ?_)
          by_cases c2 : (pendingOf st2).size > 1
          · rw [if_pos c2, Array.getElem?_eq_getElem (show (pendingOf st2).size - 2 < (pendingOf st2).size by omega)]
            generalize (pendingOf st2)[(pendingOf st2).size - 2] = q3
            obtain ⟨q31, q32, q33⟩ := q3
            dsimp only
            split
            · exact wpS_pure ⟨rfl, iv2⟩
            · exact wpS_bind (merge_iv hq iv2 (by omega) fun st3 iv3 => wpS_pure ⟨rfl, iv3⟩)
          · rw [if_neg c2]
            exact wpS_pure ⟨rfl, iv2⟩
        · rintro ⟨r2, u⟩ st2 ⟨e2, iv2⟩
          dsimp only at e2 iv2 ⊢
          subst e2
          exact wpS_bind (wpS_modify (wpS_bind (wpS_modify (wpS_pure ⟨rfl, push_iv (power_iv iv2) (by omega) (by omega)⟩))))
  · rintro ⟨r, lo⟩ st' ⟨e, iv⟩
    dsimp only at e iv ⊢
    subst e
    dsimp only
    refine wpS_bind (wpS_mono (wpS_forRange (I := fun _ (c : Option Unit × Unit) st2 => c.1 = none ∧ SIv a₀ κ lo st2) (Q := fun c st2 => c.1 = none ∧ SIv a₀ κ lo st2) ?_ (fun _ _ z => z) ⟨rfl, iv⟩) ?_)
    · rintro y ⟨r2, u⟩ st2 _ _ ⟨e2, iv2⟩
      dsimp only at e2 iv2 ⊢
      refine wpS_bind (wpS_get ?_)
      by_cases c2 : (pendingOf st2).size ≤ 1
      · rw [if_pos c2]
        exact wpS_pure ⟨rfl, iv2⟩
      · rw [if_neg c2]
        exact wpS_bind (merge_iv hq iv2 (ite_lt (by omega) (by omega)) fun st3 iv3 => wpS_pure ⟨rfl, iv3⟩)
    · rintro ⟨r2, u⟩ st2 ⟨e2, iv2⟩
      dsimp only at e2 iv2 ⊢
      subst e2
      exact wpS_pure (h st2 iv2.1 iv2.2.2.1)
end
end L2
set_option Elab.async false
set_option linter.all false
set_option maxRecDepth 100000
set_option maxHeartbeats 4000000
namespace L2
open PySem PySem.Spec PyProof.Rows
section
variable {prog : Program} {w : World} {A : Around} {E : Value → Shared → Prop} {s : Shared} {vs : List Value} {κ : SortKind} {g : Heap}
theorem zip_fst {x : Keyed} (h : x ∈ vs.toArray.zip vs.toArray) : x.1 ∈ vs := by
  have h : x ∈ (vs.toArray.zip vs.toArray).toList := Array.mem_toList_iff.mpr h
  rw [Array.toList_zip] at h
  exact (List.of_mem_zip h).1
theorem ql_of (hc : ∀ x y, x ∈ vs → y ∈ vs → ∀ C, (∀ b, C b s) → wpAny (model prog w) A (keyLt' κ x y) C (fun _ _ => False) s) : QL prog w A E s κ (vs.toArray.zip vs.toArray) := by
  intro x y st Q hx hy hκ h
  rw [lt'_eq]
  refine wpS_bind (wpS_get ?_)
  rw [hκ]
  refine wpS_bind (wpS_lift (wpAny_attempt (wpAny_mono (hc _ _ (zip_fst hx) (zip_fst hy) (fun b s' => s' = s) fun b => rfl) (fun b s' e => ?_) fun _ _ z => z.elim)))
  subst e
  exact ⟨rfl, wpS_pure (h b)⟩
theorem sortP_at {a : Addr} {n : Nat} {P : PySem.Fin → Shared → Prop} (hg : Keeps g s.heap) (ga : g.objs.size ≤ a) (ho : s.heap.get? a = some (seqObj "list" vs.toArray n)) (zl : vs.length ≤ sizeLine)
    (hk : 2 ≤ vs.length → ∀ h', Keeps g h' → ∀ Q', Q' κ { s with heap := h' } → wpAny (model prog w) A (keyKind' vs.toArray) Q' (fun _ _ => False) { s with heap := h' })
    (hc : 2 ≤ vs.length → ∀ h', Keeps g h' → ∀ x y, x ∈ vs → y ∈ vs → ∀ C, (∀ b, C b { s with heap := h' }) → wpAny (model prog w) A (keyLt' κ x y) C (fun _ _ => False) { s with heap := h' })
    (q : ∀ (ys : List Value) h' c, Keeps g h' → ys.Perm vs → h'.get? a = some (seqObj "list" ys.toArray c) → P (.done (.ret .none)) { s with heap := h' }) :
    wpAny (model prog w) A (Builtin.«list.sort» ⟨[.ref a], []⟩) P E s := by
  have z0 : vs.toArray.size = vs.length := rfl
  have k1 : Keeps g (s.heap.update a (Obj.mapSeq fun _ => (#[] : Array Value))) := hg.upd ga
  obtain ⟨e1, o1⟩ : ∃ e1, (s.heap.update a (Obj.mapSeq fun _ => (#[] : Array Value))).get? a = some (seqObj "list" #[] e1) := ⟨_, get?_update_seq ho _⟩
  have k3 := (k1.push (seqObj "tuple" vs.toArray 0)).push (seqObj "list" #[] 0)
  have o3 := Heap.get?_push_of_some (seqObj "list" #[] 0) (Heap.get?_push_of_some (seqObj "tuple" vs.toArray 0) o1)
  have snds : ((vs.toArray.zip vs.toArray).map (·.2)).toList = vs := by
    rw [Array.toList_map, Array.toList_zip]
    exact List.map_snd_zip (Nat.le_refl _)
  have fin : ∀ (st : SortSt), (arrOf st).Perm (vs.toArray.zip vs.toArray) →
      P (.done (.ret .none)) { s with heap := (((s.heap.update a (Obj.mapSeq fun _ => (#[] : Array Value))).push (seqObj "tuple" vs.toArray 0)).push (seqObj "list" #[] 0)).update a (Obj.mapSeq fun _ => (arrOf st).map (·.2)) } := fun st hp => by
    have e : (((arrOf st).map (·.2)).toList).toArray = (arrOf st).map (·.2) := Array.toArray_toList
    obtain ⟨c, hc'⟩ : ∃ c, ((((s.heap.update a (Obj.mapSeq fun _ => (#[] : Array Value))).push (seqObj "tuple" vs.toArray 0)).push (seqObj "list" #[] 0)).update a (Obj.mapSeq fun _ => (arrOf st).map (·.2))).get? a = some (seqObj "list" ((arrOf st).map (·.2)) c) := ⟨_, get?_update_seq o3 fun _ => (arrOf st).map (·.2)⟩
    refine q ((arrOf st).map (·.2)).toList _ c (k3.upd ga) ?_ ?_
    · have := (Array.perm_iff_toList_perm.mp hp).map (·.2)
      rw [← Array.toList_map, ← Array.toList_map, snds] at this
      exact this
    · rw [e]
      exact hc'
  rw [list_sort_plain]
  refine wpAny_bind (listItems_at ho rfl (wpAny_bind (listUpdate_at ho rfl (wpAny_bind (seqEpoch_at o1 rfl (wpAny_bind (wpAny_newTuple (wpAny_bind (wpAny_newList (wpAny_holding ?_) (Nat.zero_le _))) zl)))) zl (Nat.zero_le _))))
  dsimp only
  have szl : ∀ st : SortSt, (arrOf st).Perm (vs.toArray.zip vs.toArray) → ((arrOf st).map (·.2)).size ≤ sizeLine + 1 := fun st hp => by
    rw [Array.size_map, hp.size_eq, Array.size_zip]
    simp only [List.size_toArray]
    omega
  by_cases h2 : vs.length < 2
  · rw [z0, if_pos h2, if_pos h2, pure_bind]
    rw [StateT.run_pure]
    refine wpAny_bind (wpAny_pure (wpAny_bind (seqEpoch_at o3 rfl (wpAny_bind (listUpdate_at o3 rfl ?_ (Nat.zero_le _) (szl (SortSt.mk' general' (vs.toArray.zip vs.toArray) #[] 7 none) (Array.Perm.refl _)))))))
    simp only [show failedOf (SortSt.mk' general' (vs.toArray.zip vs.toArray) #[] 7 none) = none from rfl, bne_self_eq_false, Bool.false_eq_true, if_false]
    exact wpAny_pure (fin _ (Array.Perm.refl _))
  · have h2' : 2 ≤ vs.length := by omega
    rw [z0, if_neg h2, if_neg h2]
    refine wpAny_bind (hk h2' _ k3 _ ?_ |> fun x => wpAny_mono x (fun _ _ y => y) fun _ _ z => z.elim)
    have run := runs_at (E := E) (ql_of (hc h2' _ k3)) (st := SortSt.mk' κ (vs.toArray.zip vs.toArray) #[] 7 none) (Q := fun _ st' => (arrOf st').Perm (vs.toArray.zip vs.toArray) ∧ failedOf st' = none) ⟨Array.Perm.refl _, rfl, rfl, rfl, Nat.zero_le _⟩ fun st' x y => ⟨x, y⟩
    refine wpAny_bind (wpAny_mono run ?_ fun _ _ e => e)
    rintro ⟨⟨⟩, st⟩ s' ⟨rfl, hp, hf⟩
    dsimp only at hp hf ⊢
    refine wpAny_bind (seqEpoch_at o3 rfl (wpAny_bind (listUpdate_at o3 rfl ?_ (Nat.zero_le _) (szl st hp))))
    rw [hf]
    simp only [bne_self_eq_false, Bool.false_eq_true, if_false]
    exact wpAny_pure (fin st hp)
theorem sortedP_at {l : Addr} {Q : Value → Shared → Prop} (hl : s.heap.IsList l vs.toArray) (zl : vs.length ≤ sizeLine)
    (hk : 2 ≤ vs.length → ∀ h', Keeps s.heap h' → ∀ Q', Q' κ { s with heap := h' } → wpAny (model prog w) A.in1.in1 (keyKind' vs.toArray) Q' (fun _ _ => False) { s with heap := h' })
    (hc : 2 ≤ vs.length → ∀ h', Keeps s.heap h' → ∀ x y, x ∈ vs → y ∈ vs → ∀ C, (∀ b, C b { s with heap := h' }) → wpAny (model prog w) A.in1.in1 (keyLt' κ x y) C (fun _ _ => False) { s with heap := h' })
    (q : ∀ (ys : List Value) h' c, Keeps s.heap h' → ys.Perm vs → h'.get? (s.heap.objs.size + 1) = some (seqObj "list" ys.toArray c) → Q (.ref (s.heap.objs.size + 1)) { s with heap := h' }) :
    wpAny (model prog w) A (call (.builtin "sorted") [.ref l]) Q E s := by
  have k0 : Keeps s.heap s.heap := fun _ _ e => e
  have k2 := ((k0.push (seqObj "list" #[] 0)).upd (a := s.heap.objs.size) (f := Obj.mapSeq (· ++ vs.toArray)) (Nat.le_refl _)).push (seqObj "list" vs.toArray 0)
  have z2 : ((s.heap.push (seqObj "list" #[] 0)).update s.heap.objs.size (Obj.mapSeq (· ++ vs.toArray))).objs.size = s.heap.objs.size + 1 := by
    rw [Heap.size_update, size_push']
  have o2 : (((s.heap.push (seqObj "list" #[] 0)).update s.heap.objs.size (Obj.mapSeq (· ++ vs.toArray))).push (seqObj "list" vs.toArray 0)).get? (s.heap.objs.size + 1) = some (seqObj "list" vs.toArray 0) :=
    z2 ▸ Heap.get?_push_size _ rfl
  refine Calls.call_function_entry kind_sorted plain_sorted entry_sorted (args_sorted1 _) ?_
  unfold Builtin.«sorted»
  refine wpAny_bind (m := checkCount _ _ _ _) (wpAny_pure (wpAny_bind (collect_list hl (wpAny_bind (wpAny_newList ?_ zl)) zl)))
  rw [show (({ s with heap := (s.heap.push (seqObj "list" #[] 0)).update s.heap.objs.size (Obj.mapSeq (· ++ vs.toArray)) } : Shared).heap.objs.size) = s.heap.objs.size + 1 from z2]
  refine wpAny_bind (wpAny_holding (wpAny_call_entry slot_list_sort ⟨_, o2, rfl⟩ entry_list_sort (sortP_at (s := { s with heap := _ }) (κ := κ) k2 (Nat.le_succ _) o2 zl hk hc fun ys h' c b1 b2 b3 => ⟨_, rfl, ?_⟩) (args_list_sort _)))
  exact wpAny_pure ⟨_, rfl, q ys h' c b1 b2 b3⟩
end
theorem vals_perm {ws us : List Value} (h : ws.Perm us) : ∀ {vs : List V}, Vals vs us → ∃ ys : List V, ys.Perm vs ∧ Vals ys ws := by
  induction h with
  | nil => exact fun {vs} t => ⟨vs, .refl _, t⟩
  | cons v _ ih =>
    intro vs t
    cases t with
    | @cons x _ xs _ r t =>
      obtain ⟨ys, p, q⟩ := ih t
      exact ⟨x :: ys, p.cons x, .cons r q⟩
  | swap u v l =>
    intro vs t
    cases t with
    | @cons x _ xs _ r t =>
      cases t with
      | @cons y _ zs _ r2 t => exact ⟨y :: x :: zs, .swap x y zs, .cons r2 (.cons r t)⟩
  | trans _ _ i1 i2 =>
    intro vs t
    obtain ⟨ys, p, q⟩ := i2 t
    obtain ⟨zs, p', q'⟩ := i1 q
    exact ⟨zs, p'.trans p, q'⟩
def F22 (H : Hp) (v : V) : Prop := ∃ (p a b : Addr) (x1 y1 x2 y2 : Int), v = .ref p ∧ H p = some (.tup [.ref a, .ref b]) ∧ H a = some (.tup [.int x1, .int y1]) ∧ H b = some (.tup [.int x2, .int y2])
def rSortN : List V → Hp → VK → Prop := fun xs H Q => ∃ l vs, xs = [.ref l] ∧ H l = some (.lst vs) ∧ (∀ v, v ∈ vs → F22 H v) ∧ ∀ D ys, H D = none → ys.Perm vs → Q (.ref D) (upd H D (.lst ys))
section
variable {X : Cx} {pins : List (Addr × Obj)} {σ : St} {H : Hp} {s : Shared}
theorem tup22_of (I : Inv X pins σ H s) {v : V} {u : Value} (h : F22 H v) (r : RelV v u) : ∃ d : List Int × List Int, TupP s.heap u d.1 d.2 ∧ d.1.length = 2 ∧ d.2.length = 2 := by
  obtain ⟨p, a, b, x1, y1, x2, y2, rfl, hp, ha, hb⟩ := h
  cases r
  have ta := tupI_of I (ns := [x1, y1]) ha
  have tb := tupI_of I (ns := [x2, y2]) hb
  obtain ⟨its, r, ⟨⟨cls, dd, data, sl⟩, ho, hc, n, hd⟩, _⟩ := I.tuple (.of hp)
  simp only at hc hd
  subst hc hd
  obtain ⟨u1, u2, rfl, r1, r2⟩ := vals2 r
  cases r1
  cases r2
  exact ⟨([x1, y1], [x2, y2]), ⟨p, _, _, n, dd, sl, rfl, ho, ta, tb⟩, rfl, rfl⟩
theorem call_sortN (hu : X.A.units + 100 < cLine) : CallR X (.builtin "sorted") rSortN := by
  intro pins s σ H xs us Q I r h
  obtain ⟨l, vs, rfl, hl, hf, q⟩ := h
  obtain ⟨u, rfl, ru⟩ := vals1 r
  cases ru
  obtain ⟨its, rv, pl, hz⟩ := I.list (.of hl)
  have len : vs.length = its.length := rv.length
  have each : ∀ u, u ∈ its → ∃ d : List Int × List Int, TupP s.heap u d.1 d.2 ∧ d.1.length = 2 ∧ d.2.length = 2 := fun u hu' => by
    obtain ⟨i, hi, e⟩ := List.mem_iff_getElem.mp hu'
    have hv : vs[i]'(by omega) ∈ vs := List.getElem_mem _
    obtain ⟨v, hv1, hv2⟩ := vals_get? rv (List.getElem?_eq_some_iff.mpr ⟨hi, e⟩)
    exact tup22_of I (hf v (List.mem_of_getElem? hv1)) hv2
  refine sortedP_at (κ := tuples' false) pl.isList (by omega) (fun h2 h' k Q' q' => ?_) (fun h2 h' k x y hx hy C c => ?_) fun ws h' c k pm ho => ?_
  · refine kind_pairs (by omega) (fun v hv => ?_) q'
    obtain ⟨d, t1, t2, t3⟩ := each v hv
    have ne : d.1 ≠ [] := fun z => by rw [z] at t2; cases t2
    exact ⟨_, _, ne, t1.keeps k⟩
  · obtain ⟨d, t1, t2, t3⟩ := each x hx
    obtain ⟨e, u1, u2, u3⟩ := each y hy
    exact lt_tupP (t1.keeps k) (u1.keeps k) (t2.trans u2.symm) (t3.trans u3.symm) (by show X.A.units + 1 + 1 + 64 < _; omega) (c _)
  · obtain ⟨ys, py, vy⟩ := vals_perm pm rv
    refine ⟨.ref _, upd H (s.heap.objs.size + 1) (.lst ys), I.laid (t' := s.toks) k (Nat.le_succ _) ⟨?_, _, c, vy, ho⟩, rfl, q _ _ (I.hok.fresh (Nat.le_succ _)) py⟩
    rw [py.length_eq]
    exact hz
end
end L2
set_option Elab.async false
set_option linter.all false
set_option maxRecDepth 100000
set_option maxHeartbeats 4000000
namespace L2
open PySem PySem.Spec PyProof.Rows
open PySem.W (kas_sort kas_ask)
section
variable {prog : Program} {w : World} {A : Around} {E : Value → Shared → Prop} {s : Shared} {κ : SortKind} {ans : Nat → Nat → Bool}
theorem collect_dict (hh : A.handled = none) {d : Addr} {od : Obj} {es : Array DictEntry} {ep : Nat} (hd : (d == sysModules) = false) (ho : s.heap.get? d = some od) (hc : od.cls = .type "dict") (hdat : od.data = .dict es ep) {Q : List Value → Shared → Prop} (hn : es.size ≤ sizeLine)
    (h : ∀ h' tk, Keeps s.heap h' → s.heap.objs.size ≤ h'.objs.size → Q (es.toList.map (·.key)) { s with heap := h', toks := tk }) : wpAny (model prog w) A (collect (.ref d)) Q E s := by
  unfold collect
  refine wpAny_bind (wpAny_runValue (codeAny_mono (codeAny_builtin (R := wants (fun v s' => ∃ h' tk acc c, v = .ref s.heap.objs.size ∧ s' = { s with heap := h', toks := tk } ∧ Keeps s.heap h' ∧ h'.get? s.heap.objs.size = some { cls := .type "list", dict := none, data := .seq acc c, slots := #[] } ∧ acc.toList = es.toList.map (·.key)) E) entry_proto_collect' ?_) fun r s1 hr => ?_))
  rotate_left
  · cases r with
    | error e => exact hr
    | ok fl =>
      cases fl with
      | ret v =>
        obtain ⟨h', tk, acc, c, rfl, rfl, k, hS, ea⟩ := hr
        show wpAny (model prog w) A (load s.heap.objs.size >>= _) Q E _
        refine wpAny_bind (wpAny_load hS ?_)
        dsimp only
        rw [ea]
        exact wpAny_pure (h h' tk k (Nat.le_of_lt (Heap.lt_size hS)))
      | _ => exact hr.elim
  show wpAny _ _ (do again (.builtin "list.__iadd__" ⟨[← newList [], .ref d], []⟩)) _ _ s
  refine wpAny_bind (wpAny_newList (wpAny_pure ⟨Code.quiet_builtin _ (by decide +kernel), codeAny_builtin entry_list_iadd' ?_⟩))
  show wpAny _ _ (Builtin.List.listExtendWith (.ref s.heap.objs.size) (.ref d) (.ref s.heap.objs.size)) _ _ { s with heap := s.heap.push (seqObj "list" #[] 0) }
  rw [Around.under_plainId (by decide +kernel) _]
  have hS0 : (s.heap.push (seqObj "list" #[] 0)).get? s.heap.objs.size = some { cls := .type "list", data := .seq #[] 0 } := Heap.get?_push_size _ rfl
  refine extend_dict (s := { s with heap := s.heap.push (seqObj "list" #[] 0) }) hh hd (Heap.get?_push_of_some _ ho) hc hdat _ _ 0 hS0 (fun h' tk acc c kp hS hacc => ?_) hn
  have ea : acc.toList = es.toList.map (·.key) := by
    have ha : acc.size = es.size := hacc.1
    refine List.ext_getElem? fun j => ?_
    rw [List.getElem?_map, Array.getElem?_toList, Array.getElem?_toList]
    by_cases hj : j < es.size
    · have hj' : j < acc.size := by omega
      obtain ⟨e, e1, e2⟩ := hacc.2 j acc[j] (Array.getElem?_eq_getElem hj')
      rw [Array.getElem?_eq_getElem hj', e1, e2]
      rfl
    · rw [Array.getElem?_eq_none (by omega), Array.getElem?_eq_none (by omega)]
      rfl
  have k : Keeps s.heap h' := fun b o e => kp b o (Nat.ne_of_lt (Heap.lt_size e)) (Heap.get?_push_of_some _ e)
  exact ⟨h', tk, acc, c, rfl, rfl, k, hS, ea⟩
theorem sortedD_at {d : Addr} {od : Obj} {es : Array DictEntry} {ep : Nat} {vs : List Value} {Q : Value → Shared → Prop} (hh : A.handled = none) (hd : (d == sysModules) = false) (ho : s.heap.get? d = some od) (hc : od.cls = .type "dict") (hdat : od.data = .dict es ep) (hv : es.toList.map (·.key) = vs) (h64 : vs.length < 64)
    (hk : 2 ≤ vs.length → ∀ s' : Shared, Keeps s.heap s'.heap → ∀ Q', Q' κ s' → wpAny (model prog w) A.in1.in1 (keyKind' vs.toArray) Q' (fun _ _ => False) s')
    (ha : 2 ≤ vs.length → ∀ s' : Shared, Keeps s.heap s'.heap → ∀ i j C, i < vs.length → j < vs.length → C (ans i j) s' → kas_ask prog w A.in1.in1 κ vs i j C s')
    (q : ∀ (p : Array Nat) h' c tk D, Keeps s.heap h' → s.heap.objs.size ≤ D → Ord vs.length p → (2 ≤ vs.length → p = ansT ans (kas_sort vs.length)) → h'.get? D = some (seqObj "list" (List.toArray (p.toList.map fun i => vs.getD i Value.none)) c) → Q (.ref D) { s with heap := h', toks := tk }) :
    wpAny (model prog w) A (call (.builtin "sorted") [.ref d]) Q E s := by
  have ls : es.size = vs.length := by have := congrArg List.length hv; simpa using this
  have zl : vs.length ≤ sizeLine := Nat.le_trans (Nat.le_of_lt h64) (by decide)
  refine Calls.call_function_entry kind_sorted plain_sorted entry_sorted (args_sorted1 _) ?_
  unfold Builtin.«sorted»
  refine wpAny_bind (m := checkCount _ _ _ _) (wpAny_pure (wpAny_bind (collect_dict (A := A.in1) (show A.in1.handled = none from hh) hd ho hc hdat (by omega) fun h1 tk k1 sz1 => ?_)))
  rw [hv]
  refine wpAny_bind (wpAny_newList ?_ zl)
  have o2 : (h1.push (seqObj "list" vs.toArray 0)).get? h1.objs.size = some (seqObj "list" vs.toArray 0) := Heap.get?_push_size _ rfl
  refine wpAny_bind (wpAny_holding (wpAny_call_entry slot_list_sort ⟨_, o2, rfl⟩ entry_list_sort (sort_at (s := { s with heap := h1.push (seqObj "list" vs.toArray 0), toks := tk }) (κ := κ) (ans := ans) (k1.push _) sz1 o2 h64 (fun h2 h' k => hk h2 _ k) (fun h2 h' k => ha h2 _ k) fun p h' c b1 b2 b3 b4 => ⟨_, rfl, ?_⟩) (args_list_sort _)))
  exact wpAny_pure ⟨_, rfl, q p h' c tk _ b1 sz1 b2 b3 b4⟩
end
def rSortD (K2 : List (Int × Int) → Prop) : List V → Hp → VK → Prop := fun xs H Q => ∃ d kvs ks, xs = [.ref d] ∧ H d = some (.dT kvs) ∧ kvs.map Prod.fst = ks.map (fun k : Int × Int => ([.inl k.1, .inl k.2] : List Key)) ∧ ks.length < 64 ∧ K2 ks ∧
  ∀ (bs : List Addr) D p, bs.length = ks.length → (∀ (j : Nat) b k, bs[j]? = some b → ks[j]? = some k → H b = some (.tup [.int k.1, .int k.2])) → H D = none → Ord ks.length p → (2 ≤ ks.length → p = ansT (fun i j => ltK (ks.getD i (0, 0)) (ks.getD j (0, 0))) (kas_sort ks.length)) → Q (.ref D) (upd H D (.lst (p.toList.map fun i => (bs.map V.ref).getD i .non)))
theorem call_sortD {X : Cx} (hc : X.calm = true) (hu : X.A.units + 100 < cLine) : CallR X (.builtin "sorted") (rSortD fun _ => True) := by
  intro pins s σ H xs us Q I r h
  obtain ⟨d, kvs, ks, rfl, e, ek, h64, _, q⟩ := h
  obtain ⟨u, rfl, rx⟩ := vals1 r
  cases rx
  obtain ⟨z, hd, xs, rel, o, es, ep, ho, hx, hdat, he, _⟩ := I.hok d _ e
  have hk : es.toList.map (·.key) = (xs.map fun q => q.2.1).map Value.ref := by
    rw [he, List.map_map, List.map_map]
    rfl
  have lb : (xs.map fun q => q.2.1).length = kvs.length := by rw [List.length_map]; exact (Paired.length rel).symm
  have lk : kvs.length = ks.length := by have := congrArg List.length ek; simpa using this
  have at_ := paired_at rel
  generalize (xs.map fun q => q.2.1) = bs at *
  have hb : ∀ (j : Nat) b k, bs[j]? = some b → ks[j]? = some k → H b = some (.tup [.int k.1, .int k.2]) := fun j b k e1 e2 => by
    have hj : j < kvs.length := by rw [← lb]; exact (List.getElem?_eq_some_iff.mp e1).1
    have e3 := List.getElem?_eq_getElem hj
    have z := at_ j b _ e1 e3
    have e4 := congrArg (fun l => l[j]?) ek
    simp only [List.getElem?_map, e3, e2, Option.map_some, Option.some.injEq] at e4
    rw [e4] at z
    exact z
  have tup : ∀ i, i < ks.length → TupI s.heap ((bs.map Value.ref).getD i Value.none) [(ks.getD i (0, 0)).1, (ks.getD i (0, 0)).2] := fun i hi => by
    have hi' : i < bs.length := by omega
    have z := hb i bs[i] ks[i] (List.getElem?_eq_getElem hi') (List.getElem?_eq_getElem hi)
    have e1 : (bs.map Value.ref).getD i Value.none = .ref bs[i] := by simp [hi']
    have e2 : ks.getD i (0, 0) = ks[i] := by simp [hi]
    rw [e1, e2]
    exact tupI_of I (ns := [ks[i].1, ks[i].2]) z
  have lv : (bs.map Value.ref).length = ks.length := by rw [List.length_map, lb, lk]
  refine sortedD_at (κ := tuples' true) (ans := fun i j => ltK (ks.getD i (0, 0)) (ks.getD j (0, 0))) (I.ok.hd hc) hd ho hx.1 hdat hk (by omega) (fun h2 s' k Q' q' => ?_) (fun h2 s' k i j C hi hj c => ?_) fun p h' c tk D k sD or ep ho' => ?_
  · refine kind_ints (by omega) (fun v hv => ?_) q'
    obtain ⟨i, hi, e⟩ := List.mem_iff_getElem.mp hv
    have t := tup i (by omega)
    have e' : (bs.map Value.ref).getD i Value.none = v := by rw [List.getD_eq_getElem?_getD, List.getElem?_eq_getElem hi, e]; rfl
    rw [e'] at t
    exact ⟨ks.getD i (0, 0), t.keeps k⟩
  · exact lt_pairI ((tup i (by omega)).keeps k) ((tup j (by omega)).keeps k) (by show X.A.units + 1 + 1 + 64 < _; omega) c
  · rw [lv] at or ep
    have lo : p.toList.length = ks.length := by rw [or.length_eq, List.length_range]
    refine ⟨.ref D, upd H D (.lst (p.toList.map fun i => (bs.map V.ref).getD i .non)), I.laid (t' := tk) k sD ⟨?_, _, c, vals_map _ (fun i hi => ?_), ho'⟩, rfl, q bs D p (by omega) hb (I.hok.fresh sD) or ep⟩
    · rw [List.length_map, lo]
      exact Nat.le_trans (Nat.le_of_lt h64) (by decide)
    · have hi' : i < bs.length := by have := List.mem_range.mp (or.mem_iff.mp hi); omega
      have e1 : (bs.map Value.ref).getD i Value.none = .ref bs[i] := by simp [hi']
      have e2 : (bs.map V.ref).getD i V.non = .ref bs[i] := by simp [hi']
      rw [e1, e2]
      rfl
end L2
set_option Elab.async false
set_option linter.all false
set_option maxRecDepth 100000
set_option maxHeartbeats 4000000
namespace My
def G (a b : Int) : Int := (Int.gcd a b : Nat)
theorem G_nonneg (a b : Int) : 0 ≤ G a b := Int.natCast_nonneg _
theorem G_mod (a b : Int) (hb : 0 < b) : G b (Int.fmod a b) = G a b := by
  unfold G
  rw [Int.fmod_eq_emod_of_nonneg a (Int.le_of_lt hb), Int.gcd_comm a b]
  have e : a % b + a / b * b = a := by rw [Int.mul_comm]; exact Int.emod_add_mul_ediv a b
  rw [← Int.gcd_add_mul_right_right b (a % b) (a / b), e]
theorem turn {c a b : Int} (h : G a b = c) (hb : 0 < b) : 0 ≤ b ∧ 0 ≤ Int.fmod a b ∧ G b (Int.fmod a b) = c :=
  ⟨Int.le_of_lt hb, Int.fmod_nonneg_of_pos a hb, by rw [G_mod a b hb, h]⟩
end My
namespace My
theorem fdiv_of_dvd {a b : Int} (h : b ∣ a) : a.fdiv b * b = a := by
  have e := Int.fmod_add_mul_fdiv a b
  have z : a.fmod b = 0 := Int.fmod_eq_zero_of_dvd h
  rw [z] at e
  rw [Int.mul_comm]
  omega
theorem natAbs_le_of_mul {x f y : Int} (e : x * f = y) (hf : f ≠ 0) : x.natAbs ≤ y.natAbs := by
  rw [← e, Int.natAbs_mul]
  exact Nat.le_mul_of_pos_right _ (by omega)
theorem pos_of_mul {x f y : Int} (e : x * f = y) (h : (0 < f ∧ 0 < y) ∨ (f < 0 ∧ y < 0)) : 0 < x := by
  rcases (by omega : 0 < x ∨ x = 0 ∨ x < 0) with hx | hx | hx
  · exact hx
  · rw [hx, Int.zero_mul] at e; omega
  · exfalso
    rcases h with ⟨h1, h2⟩ | ⟨h1, h2⟩
    · have := Int.mul_neg_of_neg_of_pos hx h1; omega
    · have := Int.mul_pos_of_neg_of_neg hx h1; omega
structure Low (n : Nat) (a b : Int) : Prop where
  pos : 0 < b
  one : G a b = 1
  la : a.natAbs < 2 ^ n
  lb : b.natAbs < 2 ^ n
theorem Low.ne {n : Nat} {a b : Int} (h : Low n a b) : b ≠ 0 := by have := h.pos; omega
theorem lt_mono {a : Int} {m n : Nat} (h : a.natAbs < 2 ^ m) (hm : m ≤ n) : a.natAbs < 2 ^ n := Nat.lt_of_lt_of_le h (Nat.pow_le_pow_right (by decide) hm)
end My
namespace My
end My
namespace My
end My
namespace My
def g3 (a b c : Int) : Nat := Nat.gcd (Nat.gcd a.natAbs b.natAbs) c.natAbs
theorem G_nat (a b : Int) : (G a b).natAbs = Nat.gcd a.natAbs b.natAbs := by unfold G; rw [Int.natAbs_natCast]; rfl
theorem G3 (a b c : Int) : G (G a b) c = (g3 a b c : Int) := by
  have h : (G (G a b) c).natAbs = g3 a b c := by rw [G_nat, G_nat]; rfl
  have h0 := G_nonneg (G a b) c
  omega
theorem g3_mul (a b c f : Int) : g3 (a * f) (b * f) (c * f) = g3 a b c * f.natAbs := by
  unfold g3
  rw [Int.natAbs_mul, Int.natAbs_mul, Int.natAbs_mul, Nat.gcd_mul_right, Nat.gcd_mul_right]
theorem g3_pos {a b c : Int} (h : c ≠ 0) : 0 < g3 a b c := by
  unfold g3
  exact Nat.gcd_pos_of_pos_right _ (by omega)
theorem g3_da (a b c : Int) : ((g3 a b c : Nat) : Int) ∣ a := Int.ofNat_dvd_left.mpr (Nat.dvd_trans (Nat.gcd_dvd_left _ _) (Nat.gcd_dvd_left _ _))
theorem g3_db (a b c : Int) : ((g3 a b c : Nat) : Int) ∣ b := Int.ofNat_dvd_left.mpr (Nat.dvd_trans (Nat.gcd_dvd_left _ _) (Nat.gcd_dvd_right _ _))
theorem g3_dc (a b c : Int) : ((g3 a b c : Nat) : Int) ∣ c := Int.ofNat_dvd_left.mpr (Nat.gcd_dvd_right _ _)
structure Pt (n : Nat) (x y w : Int) : Prop where
  pos : 0 < w
  one : g3 x y w = 1
  lx : x.natAbs < 2 ^ n
  ly : y.natAbs < 2 ^ n
  lw : w.natAbs < 2 ^ n
theorem Pt.ne {n : Nat} {x y w : Int} (h : Pt n x y w) : w ≠ 0 := by have := h.pos; omega
theorem Pt.mono {m n : Nat} {x y w : Int} (h : Pt m x y w) (hm : m ≤ n) : Pt n x y w := ⟨h.pos, h.one, lt_mono h.lx hm, lt_mono h.ly hm, lt_mono h.lw hm⟩
theorem pt_of {n : Nat} {x y w f : Int} (hf : f.natAbs = g3 x y w) (hs : (0 < f ∧ 0 < w) ∨ (f < 0 ∧ w < 0)) (lx : x.natAbs < 2 ^ n) (ly : y.natAbs < 2 ^ n) (lw : w.natAbs < 2 ^ n) : Pt n (x.fdiv f) (y.fdiv f) (w.fdiv f) := by
  have hd : ∀ z : Int, ((g3 x y w : Nat) : Int) ∣ z → f ∣ z := fun z h => by
    rw [← hf] at h
    exact Int.natAbs_dvd.mp h
  have ex := fdiv_of_dvd (hd x (g3_da x y w))
  have ey := fdiv_of_dvd (hd y (g3_db x y w))
  have ew := fdiv_of_dvd (hd w (g3_dc x y w))
  have hw : w ≠ 0 := by omega
  have fn : f ≠ 0 := by omega
  refine ⟨pos_of_mul ew hs, ?_, Nat.lt_of_le_of_lt (natAbs_le_of_mul ex fn) lx, Nat.lt_of_le_of_lt (natAbs_le_of_mul ey fn) ly, Nat.lt_of_le_of_lt (natAbs_le_of_mul ew fn) lw⟩
  have e := g3_mul (x.fdiv f) (y.fdiv f) (w.fdiv f) f
  rw [ex, ey, ew, hf] at e
  have hp := g3_pos (a := x) (b := y) hw
  have e' : 1 * g3 x y w = g3 (x.fdiv f) (y.fdiv f) (w.fdiv f) * g3 x y w := by omega
  exact (Nat.eq_of_mul_eq_mul_right hp e').symm
def fac3 (x y w : Int) : Int := if w < 0 then -G (G w x) y else G (G w x) y
def ptW (x y w : Int) : Int := w.fdiv (fac3 x y w)
end My
namespace My
theorem g3_gt {x y w : Int} (hw : 0 < w) : 0 < G (G x y) w := by
  rw [G3]
  have := g3_pos (a := x) (b := y) (c := w) (by omega)
  omega
theorem g3_ne {x y w : Int} (hw : 0 < w) : G (G x y) w ≠ 0 := by have := g3_gt (x := x) (y := y) hw; omega
theorem g3_abs (x y w : Int) : (G (G x y) w).natAbs = g3 x y w := by rw [G3]; simp
theorem g3_lt {n : Nat} {x y w : Int} (hw : 0 < w) (lw : w.natAbs < 2 ^ n) : (G (G x y) w).natAbs < 2 ^ n := by
  rw [g3_abs]
  exact Nat.lt_of_le_of_lt (Nat.le_of_dvd (by omega) (Nat.gcd_dvd_right _ _)) lw
theorem g3_pt {n : Nat} {x y w : Int} (hw : 0 < w) (lx : x.natAbs < 2 ^ n) (ly : y.natAbs < 2 ^ n) (lw : w.natAbs < 2 ^ n) : Pt n (x.fdiv (G (G x y) w)) (y.fdiv (G (G x y) w)) (w.fdiv (G (G x y) w)) :=
  pt_of (g3_abs x y w) (.inl ⟨g3_gt hw, hw⟩) lx ly lw
end My
namespace My
end My
namespace My
def bef (x1 y1 w1 x2 y2 w2 : Int) : Bool := if x1 * w2 = x2 * w1 then decide (y1 * w2 < y2 * w1) else decide (x1 * w2 < x2 * w1)
theorem bef_true {x1 y1 w1 x2 y2 w2 : Int} : bef x1 y1 w1 x2 y2 w2 = true ↔ (x1 * w2 < x2 * w1 ∨ (x1 * w2 = x2 * w1 ∧ y1 * w2 < y2 * w1)) := by
  unfold bef
  split
  · rename_i h
    rw [decide_eq_true_iff]
    omega
  · rename_i h
    rw [decide_eq_true_iff]
    omega
theorem bef_false {x1 y1 w1 x2 y2 w2 : Int} : bef x1 y1 w1 x2 y2 w2 = false ↔ (x2 * w1 < x1 * w2 ∨ (x1 * w2 = x2 * w1 ∧ y2 * w1 ≤ y1 * w2)) := by
  rw [← Bool.not_eq_true, bef_true]
  omega
theorem pt_uniq {n : Nat} {x1 y1 w1 x2 y2 w2 : Int} (p : Pt n x1 y1 w1) (q : Pt n x2 y2 w2) (ex : x1 * w2 = x2 * w1) (ey : y1 * w2 = y2 * w1) : x1 = x2 ∧ y1 = y2 ∧ w1 = w2 := by
  have a := g3_mul x1 y1 w1 w2
  have b := g3_mul x2 y2 w2 w1
  rw [p.one, Nat.one_mul] at a
  rw [q.one, Nat.one_mul] at b
  rw [ex, ey, Int.mul_comm w1 w2] at a
  have hw : w1 = w2 := by
    have := p.pos
    have := q.pos
    omega
  subst hw
  exact ⟨Int.eq_of_mul_eq_mul_right p.ne ex, Int.eq_of_mul_eq_mul_right p.ne ey, rfl⟩
theorem bef_tri {n : Nat} {x1 y1 w1 x2 y2 w2 : Int} (p : Pt n x1 y1 w1) (q : Pt n x2 y2 w2) (h : bef x1 y1 w1 x2 y2 w2 = bef x2 y2 w2 x1 y1 w1) : x1 = x2 ∧ y1 = y2 ∧ w1 = w2 := by
  cases e : bef x1 y1 w1 x2 y2 w2 with
  | true =>
    have e' := h.symm.trans e
    rw [bef_true] at e e'
    omega
  | false =>
    have e' := h.symm.trans e
    rw [bef_false] at e e'
    exact pt_uniq p q (by omega) (by omega)
end My
namespace My
end My
namespace My
structure S6 where
  x1 : Int
  y1 : Int
  w1 : Int
  x2 : Int
  y2 : Int
  w2 : Int
end My
namespace My
end My
namespace My
theorem G_fmod (x y : Int) : G y (x.fmod y) = G x y := by
  unfold G
  rw [Int.gcd_comm x y]
  have e : x.fmod y + x.fdiv y * y = x := by rw [Int.mul_comm]; exact Int.fmod_add_mul_fdiv x y
  rw [← Int.gcd_add_mul_right_right y (x.fmod y) (x.fdiv y), e]
theorem fmod_small {x y : Int} (h : y ≠ 0) : (x.fmod y).natAbs < y.natAbs := by
  have h0 := Int.emod_nonneg x h
  have h1 := Int.emod_lt x h
  rw [Int.fmod_eq_emod]
  split
  · omega
  · rename_i c
    have hn : x % y ≠ 0 := fun z => c (.inr (Int.dvd_of_emod_eq_zero z))
    have hy : ¬ 0 ≤ y := fun z => c (.inl z)
    omega
theorem G_end (x : Int) : (if x < 0 then -x else x) = G x 0 := by
  unfold G
  rw [Int.gcd_zero_right]
  split <;> omega
end My
namespace My
structure Q3 where
  x : Int
  y : Int
  w : Int
deriving DecidableEq
def dX (a b : Q3) : Int := b.x * a.w - a.x * b.w
def dY (a b : Q3) : Int := b.y * a.w - a.y * b.w
def LP (u v : Int) : Prop := 0 < u ∨ (u = 0 ∧ 0 < v)
def Lt (s : Int) (a b : Q3) : Prop := LP (s * dX a b) (s * dY a b)
theorem lp_no {u v : Int} (h : LP u v) (h' : LP (-u) (-v)) : False := by
  unfold LP at *
  omega
theorem dX_swap (a b : Q3) : dX b a = -dX a b := by unfold dX; grind
theorem dY_swap (a b : Q3) : dY b a = -dY a b := by unfold dY; grind
theorem sc {s A B C u v w : Int} (e : A * u = B * v + C * w) : A * (s * u) = B * (s * v) + C * (s * w) := by
  have : A * (s * u) = s * (A * u) := by grind
  rw [this, e]
  grind
theorem lt_asym {s : Int} {a b : Q3} (h : Lt s a b) (h' : Lt s b a) : False := by
  unfold Lt at *
  rw [dX_swap, dY_swap, Int.mul_neg, Int.mul_neg] at h'
  exact lp_no h h'
theorem lt_irr {s : Int} {a : Q3} (h : Lt s a a) : False := lt_asym h h
end My
namespace My
section
variable {os L U : List Q3} {f l : Q3}
end
theorem fl_lt {a b c d G : Int} (hb : 0 < b) (hd : 0 < d) (h : a * d < c * b) (hG : b * d ≤ G) : a * G / b < c * G / d := by
  have g0 : 0 ≤ G := Int.le_trans (Int.le_of_lt (Int.mul_pos hb hd)) hG
  have h0 : a * G / b * b ≤ a * G := Int.ediv_mul_le _ (by omega)
  have h1 := Int.mul_le_mul_of_nonneg_right h0 (Int.le_of_lt hd)
  have h2 : G * (a * d + 1) ≤ G * (c * b) := Int.mul_le_mul_of_nonneg_left (by omega) g0
  refine Int.lt_of_lt_of_le (Int.lt_succ _) (Int.le_ediv_of_mul_le hd (Int.le_of_mul_le_mul_right ?_ hb))
  generalize a * G / b = A at *
  calc (A + 1) * d * b = A * b * d + b * d := by grind
    _ ≤ a * G * d + G := Int.add_le_add h1 hG
    _ = G * (a * d + 1) := by grind
    _ ≤ G * (c * b) := h2
    _ = c * G * b := by grind
theorem fl_eq {a b c d G : Int} (hb : 0 < b) (hd : 0 < d) (h : a * d = c * b) : a * G / b = c * G / d := by
  have e1 : a * G / b = (a * G * d) / (b * d) := (Int.mul_ediv_mul_of_pos_left (a * G) b hd).symm
  have e2 : c * G / d = (c * G * b) / (d * b) := (Int.mul_ediv_mul_of_pos_left (c * G) d hb).symm
  rw [e1, e2, Int.mul_comm d b]
  congr 1
  have : a * G * d = G * (a * d) := by grind
  rw [this, h]
  grind
def bq (a b : Q3) : Bool := bef a.x a.y a.w b.x b.y b.w
theorem bq_lt {a b : Q3} : bq a b = true ↔ Lt 1 a b := by
  unfold bq Lt LP dX dY
  rw [bef_true]
  omega
def PQ (n : Nat) (a : Q3) : Prop := Pt n a.x a.y a.w
theorem pq_tri {n : Nat} {a b : Q3} (ha : PQ n a) (hb : PQ n b) (h1 : bq a b = false) (h2 : bq b a = false) : a = b := by
  obtain ⟨e1, e2, e3⟩ := bef_tri ha hb (h1.trans h2.symm)
  obtain ⟨x, y, w⟩ := a
  obtain ⟨x', y', w'⟩ := b
  simp only at e1 e2 e3
  rw [e1, e2, e3]
def kyQ (g : Int) (r : Q3) : Int × Int := (r.x * (g * g) / r.w, r.y * (g * g) / r.w)
theorem ky_lt {a b : Q3} {g : Int} (ha : 0 < a.w) (hb : 0 < b.w) (ga : a.w ≤ g) (gb : b.w ≤ g) (h : bq a b = true) : L2.lt2 (kyQ g a) (kyQ g b) = true := by
  have hG : a.w * b.w ≤ g * g := Int.mul_le_mul ga gb (Int.le_of_lt hb) (Int.le_trans (Int.le_of_lt ha) ga)
  unfold bq at h
  rw [bef_true] at h
  unfold L2.lt2 L2.lexB kyQ
  rcases h with h | ⟨h, h'⟩
  · have := fl_lt ha hb h hG
    rw [if_neg (by omega)]
    exact decide_eq_true this
  · rw [if_pos (fl_eq ha hb h)]
    exact decide_eq_true (fl_lt ha hb h' hG)
end My
namespace Mine
open PySem L2 My
def top (i : Nat) : Stmt := PySem.Challenge.pw_acre_k50_corners_told.main.body.getD i (.Pass ⟨0, 0, 0, 0⟩)
abbrev s_order_keys : Stmt := top 1
theorem sc_order_keys : FnScope ["points", "greatest", "scale", "keys", "P"] ["points"] (defScope s_order_keys) := ⟨rfl, rfl, rfl, by decide +kernel, rfl, by decide +kernel, by decide +kernel⟩
abbrev s_in_order : Stmt := top 2
theorem sc_in_order : FnScope ["points", "keys"] ["points"] (defScope s_in_order) := ⟨rfl, rfl, rfl, by decide +kernel, rfl, by decide +kernel, by decide +kernel⟩
abbrev s_ends_of : Stmt := top 4
theorem sc_ends_of : FnScope ["stretches", "ends", "S"] ["stretches"] (defScope s_ends_of) := ⟨rfl, rfl, rfl, by decide +kernel, rfl, by decide +kernel, by decide +kernel⟩
abbrev s_corners_of : Stmt := top 6
theorem sc_corners_of : FnScope ["land"] ["land"] (defScope s_corners_of) := ⟨rfl, rfl, rfl, by decide +kernel, rfl, by decide +kernel, by decide +kernel⟩
abbrev s_law_cell : Stmt := top 8
theorem sc_law_cell : FnScope ["_law_script", "_law_k", "_law_number"] ["_law_script", "_law_k"] (defScope s_law_cell) := ⟨rfl, rfl, rfl, by decide +kernel, rfl, by decide +kernel, by decide +kernel⟩
abbrev s_law_divisor : Stmt := top 9
theorem sc_law_divisor : FnScope ["_law_one", "_law_other"] ["_law_one", "_law_other"] (defScope s_law_divisor) := ⟨rfl, rfl, rfl, by decide +kernel, rfl, by decide +kernel, by decide +kernel⟩
abbrev s_law_point : Stmt := top 10
theorem sc_law_point : FnScope ["_law_east", "_law_north", "_law_share", "_law_many"] ["_law_east", "_law_north", "_law_share"] (defScope s_law_point) := ⟨rfl, rfl, rfl, by decide +kernel, rfl, by decide +kernel, by decide +kernel⟩
abbrev s_law_cells : Stmt := top 11
theorem sc_law_cells : FnScope ["_law_script", "_law_wide", "_law_high", "_law_cells_here", "_law_k"] ["_law_script", "_law_wide", "_law_high"] (defScope s_law_cells) := ⟨rfl, rfl, rfl, by decide +kernel, rfl, by decide +kernel, by decide +kernel⟩
abbrev s_law_ends : Stmt := top 12
theorem sc_law_ends : FnScope ["_law_cell_here", "_law_x", "_law_y", "_law_rim"] ["_law_cell_here"] (defScope s_law_ends) := ⟨rfl, rfl, rfl, by decide +kernel, rfl, by decide +kernel, by decide +kernel⟩
abbrev s_law_edges : Stmt := top 13
theorem sc_law_edges : FnScope ["_law_cells_here", "_law_sides", "_law_cell_here", "_law_ends_here", "_law_k"] ["_law_cells_here"] (defScope s_law_edges) := ⟨rfl, rfl, rfl, by decide +kernel, rfl, by decide +kernel, by decide +kernel⟩
abbrev s_law_straight : Stmt := top 14
theorem sc_law_straight : FnScope ["_law_starts", "_law_begin", "_law_end", "_law_behind"] ["_law_starts", "_law_begin", "_law_end"] (defScope s_law_straight) := ⟨rfl, rfl, rfl, by decide +kernel, rfl, by decide +kernel, by decide +kernel⟩
abbrev s_law_long : Stmt := top 15
theorem sc_law_long : FnScope ["_law_edges_here", "_law_starts", "_law_first", "_law_last", "_law_ways", "_law_back", "_law_begin", "_law_end"] ["_law_edges_here"] (defScope s_law_long) := ⟨rfl, rfl, rfl, by decide +kernel, rfl, by decide +kernel, by decide +kernel⟩
abbrev s_law_frame : Stmt := top 16
theorem sc_law_frame : FnScope ["_law_script", "_law_cell_here", "_law_p", "_law_q", "_law_r", "_law_far", "_law_share"] ["_law_script"] (defScope s_law_frame) := ⟨rfl, rfl, rfl, by decide +kernel, rfl, by decide +kernel, by decide +kernel⟩
abbrev s_law_moved : Stmt := top 17
theorem sc_law_moved : FnScope ["_law_place", "_law_frame_here", "_law_east"] ["_law_place", "_law_frame_here"] (defScope s_law_moved) := ⟨rfl, rfl, rfl, by decide +kernel, rfl, by decide +kernel, by decide +kernel⟩
abbrev s_law_land : Stmt := top 18
theorem sc_law_land : FnScope ["_law_cells_here", "_law_frame_here", "_law_ways"] ["_law_cells_here", "_law_frame_here"] (defScope s_law_land) := ⟨rfl, rfl, rfl, by decide +kernel, rfl, by decide +kernel, by decide +kernel⟩
abbrev s_law_told : Stmt := top 19
theorem sc_law_told : FnScope ["_law_ways", "_law_share"] ["_law_ways", "_law_share"] (defScope s_law_told) := ⟨rfl, rfl, rfl, by decide +kernel, rfl, by decide +kernel, by decide +kernel⟩
abbrev s_law : Stmt := top 20
theorem sc_law : FnScope ["_law_script", "_law_cells_here", "_law_frame_here", "_law_ways", "_law_ends_here", "_law_first", "_law_last", "_law_due", "_law_land_here", "_law_handed", "_law_found", "_law_other"] ["_law_script"] (defScope s_law) := ⟨rfl, rfl, rfl, by decide +kernel, rfl, by decide +kernel, by decide +kernel⟩
structure FnAt (K : PySem.W.Frag) (mg : Str → Option Value) (x : Str) (st : Stmt) (ps : List Str) (f : Addr) (fd : FuncData) : Prop where
  fn : Fun K x x st f fd
  bn : Binds K fd ps []
  mg : mg x = some (.ref f)
structure Txt (K : PySem.W.Frag) (mg : Str → Option Value) (ad : Nat → Addr) (fd : Nat → FuncData) : Prop where
  order_keys : FnAt K mg "order_keys" s_order_keys ["points"] (ad 0) (fd 0)
  in_order : FnAt K mg "in_order" s_in_order ["points"] (ad 1) (fd 1)
  in_order_c : FunC K "in_order" "in_order" s_in_order (ad 1) (fd 1) (ad 17) (ad 18)
  ends_of : FnAt K mg "ends_of" s_ends_of ["stretches"] (ad 2) (fd 2)
  corners_of : FnAt K mg "corners_of" s_corners_of ["land"] (ad 3) (fd 3)
  law_cell : FnAt K mg "_law_cell" s_law_cell ["_law_script", "_law_k"] (ad 4) (fd 4)
  law_divisor : FnAt K mg "_law_divisor" s_law_divisor ["_law_one", "_law_other"] (ad 5) (fd 5)
  law_point : FnAt K mg "_law_point" s_law_point ["_law_east", "_law_north", "_law_share"] (ad 6) (fd 6)
  law_cells : FnAt K mg "_law_cells" s_law_cells ["_law_script", "_law_wide", "_law_high"] (ad 7) (fd 7)
  law_ends : FnAt K mg "_law_ends" s_law_ends ["_law_cell_here"] (ad 8) (fd 8)
  law_edges : FnAt K mg "_law_edges" s_law_edges ["_law_cells_here"] (ad 9) (fd 9)
  law_straight : FnAt K mg "_law_straight" s_law_straight ["_law_starts", "_law_begin", "_law_end"] (ad 10) (fd 10)
  law_long : FnAt K mg "_law_long" s_law_long ["_law_edges_here"] (ad 11) (fd 11)
  law_frame : FnAt K mg "_law_frame" s_law_frame ["_law_script"] (ad 12) (fd 12)
  law_moved : FnAt K mg "_law_moved" s_law_moved ["_law_place", "_law_frame_here"] (ad 13) (fd 13)
  law_land : FnAt K mg "_law_land" s_law_land ["_law_cells_here", "_law_frame_here"] (ad 14) (fd 14)
  law_told : FnAt K mg "_law_told" s_law_told ["_law_ways", "_law_share"] (ad 15) (fd 15)
  law : FnAt K mg "law" s_law ["_law_script"] (ad 16) (fd 16)
  b_abs : mg "abs" = none
  b_isinstance : mg "isinstance" = none
  b_len : mg "len" = none
  b_list : mg "list" = none
  b_max : mg "max" = none
  b_range : mg "range" = none
  b_sorted : mg "sorted" = none
def sp_divisor : Sp := fun vs H Q _ => ∃ a b : Int, vs = [.int a, .int b] ∧ Q (.int (G a b)) H
def PtH (n : Nat) (H : Hp) (p : Addr) (x y w : Int) : Prop := H p = some (.tup [.int x, .int y, .int w]) ∧ Pt n x y w
theorem PtH.same {n : Nat} {H H' : Hp} {p : Addr} {x y w : Int} (h : PtH n H p x y w) (g : Same H H') : PtH n H' p x y w := ⟨g _ _ h.1, h.2⟩
theorem PtH.mono {m n : Nat} {H : Hp} {p : Addr} {x y w : Int} (h : PtH m H p x y w) (hm : m ≤ n) : PtH n H p x y w := ⟨h.1, h.2.mono hm⟩
def Bd3 (n : Nat) (a b c : Int) : Prop := a.natAbs < 2 ^ n ∧ b.natAbs < 2 ^ n ∧ c.natAbs < 2 ^ n
def TB (n : Nat) (H : Hp) (p : Addr) (x y w : Int) : Prop := H p = some (.tup [.int x, .int y, .int w]) ∧ Bd3 n x y w
theorem TB.same {n : Nat} {H H' : Hp} {p : Addr} {x y w : Int} (h : TB n H p x y w) (g : Same H H') : TB n H' p x y w := ⟨g _ _ h.1, h.2⟩
theorem Bd3.mono {m n : Nat} {x y w : Int} (h : Bd3 m x y w) (hm : m ≤ n) : Bd3 n x y w := ⟨lt_mono h.1 hm, lt_mono h.2.1 hm, lt_mono h.2.2 hm⟩
theorem TB.mono {m n : Nat} {H : Hp} {p : Addr} {x y w : Int} (h : TB m H p x y w) (hm : m ≤ n := by decide) : TB n H p x y w := ⟨h.1, h.2.mono hm⟩
theorem Pt.bd {m n : Nat} {x y w : Int} (h : Pt m x y w) (hm : m ≤ n := by decide) : Bd3 n x y w := ⟨lt_mono h.lx hm, lt_mono h.ly hm, lt_mono h.lw hm⟩
theorem PtH.tb {m n : Nat} {H : Hp} {p : Addr} {x y w : Int} (h : PtH m H p x y w) (hm : m ≤ n := by decide) : TB n H p x y w := ⟨h.1, Pt.bd h.2 hm⟩
def TupSame (H H' : Hp) : Prop := ∀ b xs, H b = some (.tup xs) → H' b = some (.tup xs)
theorem ts_same {H H' : Hp} (g : Same H H') : TupSame H H' := fun b xs h => g b _ h
theorem ts_put {H : Hp} {D : Addr} {ys : List V} {o : HO} (h : H D = some (.lst ys)) : TupSame H (upd H D o) := fun b xs q => by
  rw [upd_ne (ne_of q h (by intro z; cases z))]
  exact q
def PB (H : Hp) (p : Addr) : Prop := ∃ x y w : Int, TB 1000 H p x y w ∧ 0 < w
def PBn (n : Nat) (H : Hp) (p : Addr) : Prop := ∃ x y w : Int, TB n H p x y w ∧ 0 < w
theorem PBn.ts {n : Nat} {H H' : Hp} {p : Addr} (g : TupSame H H') (h : PBn n H p) : PBn n H' p := by
  obtain ⟨x, y, w, ⟨h1, h2⟩, h3⟩ := h
  exact ⟨x, y, w, ⟨g _ _ h1, h2⟩, h3⟩
theorem PBn.pb {n : Nat} {H : Hp} {p : Addr} (h : PBn n H p) (hn : n ≤ 1000) : PB H p := by
  obtain ⟨x, y, w, h1, h3⟩ := h
  exact ⟨x, y, w, h1.mono hn, h3⟩
theorem PBn.mono {m n : Nat} {H : Hp} {p : Addr} (h : PBn m H p) (hn : m ≤ n) : PBn n H p := by
  obtain ⟨x, y, w, h1, h3⟩ := h
  exact ⟨x, y, w, h1.mono hn, h3⟩
theorem PB.ts {H H' : Hp} {p : Addr} (g : TupSame H H') (h : PB H p) : PB H' p := by
  obtain ⟨x, y, w, ⟨h1, h2⟩, h3⟩ := h
  exact ⟨x, y, w, ⟨g _ _ h1, h2⟩, h3⟩
def StV (H : Hp) (p : Addr) (d : S6) : Prop := ∃ a b, H p = some (.tup [.ref a, .ref b]) ∧ TB 1000 H a d.x1 d.y1 d.w1 ∧ TB 1000 H b d.x2 d.y2 d.w2
theorem TB.ts {n : Nat} {H H' : Hp} {p : Addr} {x y w : Int} (h : TB n H p x y w) (g : TupSame H H') : TB n H' p x y w := ⟨g _ _ h.1, h.2⟩
theorem StV.ts {H H' : Hp} {p : Addr} {d : S6} (h : StV H p d) (g : TupSame H H') : StV H' p d := by
  obtain ⟨a, b, h1, h2, h3⟩ := h
  exact ⟨a, b, g _ _ h1, h2.ts g, h3.ts g⟩
def StL (H : Hp) (ys : List V) (ds : List S6) : Prop := ys.length = ds.length ∧ ∀ (j : Nat) (v : V), ys[j]? = some v → ∃ (p : Addr) (d : S6), v = .ref p ∧ ds[j]? = some d ∧ StV H p d
theorem StL.ts {H H' : Hp} {ys : List V} {ds : List S6} (h : StL H ys ds) (g : TupSame H H') : StL H' ys ds := ⟨h.1, fun j v z => by
  obtain ⟨p, d, e, f, s⟩ := h.2 j v z
  exact ⟨p, d, e, f, s.ts g⟩⟩
theorem StL.nil {H : Hp} : StL H [] [] := ⟨rfl, fun j v z => by cases z⟩
theorem StL.snoc {H : Hp} {ys : List V} {ds : List S6} {p : Addr} {d : S6} (h : StL H ys ds) (s : StV H p d) : StL H (ys ++ [.ref p]) (ds ++ [d]) := by
  refine ⟨by rw [List.length_append, List.length_append, h.1]; rfl, fun j v z => ?_⟩
  by_cases hj : j < ys.length
  · rw [List.getElem?_append_left hj] at z
    obtain ⟨q, e, f, g, t⟩ := h.2 j v z
    exact ⟨q, e, f, by rw [List.getElem?_append_left (by rw [← h.1]; exact hj)]; exact g, t⟩
  · rw [List.getElem?_append_right (by omega)] at z
    cases e : j - ys.length with
    | zero =>
      rw [e] at z
      cases z
      exact ⟨p, d, rfl, by rw [List.getElem?_append_right (by rw [← h.1]; omega), ← h.1, e]; rfl, s⟩
    | succ n => rw [e] at z; cases z
def iv_ldiv (a b : Int) (H₀ : Hp) : St → Hp → Prop := fun σ H' => H' = H₀ ∧ ∃ x y : Int, σ = [some (.int x), some (.int y)] ∧ G x y = G a b
structure P3 where
  x : Int
  y : Int
  w : Int
def sd1 (p q : P3) : S6 := if bef p.x p.y p.w q.x q.y q.w = true then ⟨p.x, p.y, p.w, q.x, q.y, q.w⟩ else ⟨q.x, q.y, q.w, p.x, p.y, p.w⟩
def sd (p q : P3) : List S6 := if p.x = q.x ∧ p.y = q.y ∧ p.w = q.w then [] else [sd1 p q]
def RgH (H : Hp) (p : Addr) (r : List P3) : Prop := ∃ zs, H p = some (.lst zs) ∧ zs.length = r.length ∧ r.length ≤ 20 ∧ ∀ (k : Nat) (v : V), zs[k]? = some v → ∃ (a : Addr) (c : P3), v = .ref a ∧ r[k]? = some c ∧ TB 1000 H a c.x c.y c.w
theorem RgH.same {H H' : Hp} {p : Addr} {r : List P3} (h : RgH H p r) (g : Same H H') : RgH H' p r := by
  obtain ⟨zs, h1, h2, h3, h4⟩ := h
  refine ⟨zs, g _ _ h1, h2, h3, fun k v z => ?_⟩
  obtain ⟨a, c, e, f, t⟩ := h4 k v z
  exact ⟨a, c, e, f, t.same g⟩
def RgL (H : Hp) (ys : List V) (rs : List (List P3)) : Prop := ys.length = rs.length ∧ ∀ (j : Nat) (v : V), ys[j]? = some v → ∃ (p : Addr) (r : List P3), v = .ref p ∧ rs[j]? = some r ∧ RgH H p r
theorem RgL.same {H H' : Hp} {ys : List V} {rs : List (List P3)} (h : RgL H ys rs) (g : Same H H') : RgL H' ys rs := ⟨h.1, fun j v z => by
  obtain ⟨p, r, e, f, t⟩ := h.2 j v z
  exact ⟨p, r, e, f, t.same g⟩⟩
theorem RgL.nil {H : Hp} : RgL H [] [] := ⟨rfl, fun j v z => by cases z⟩
def LR {α : Type} (R : Hp → Addr → α → Prop) (H : Hp) (ys : List V) (as : List α) : Prop := ys.length = as.length ∧ ∀ (j : Nat) (v : V), ys[j]? = some v → ∃ (p : Addr) (a : α), v = .ref p ∧ as[j]? = some a ∧ R H p a
section
variable {α : Type} {R : Hp → Addr → α → Prop}
theorem LR.ts (hR : ∀ H H' p a, TupSame H H' → R H p a → R H' p a) {H H' : Hp} {ys : List V} {as : List α} (h : LR R H ys as) (g : TupSame H H') : LR R H' ys as := ⟨h.1, fun j v z => by
  obtain ⟨p, d, e, f, s⟩ := h.2 j v z
  exact ⟨p, d, e, f, hR _ _ _ _ g s⟩⟩
theorem LR.nil {H : Hp} : LR R H [] [] := ⟨rfl, fun j v z => by cases z⟩
theorem LR.app {H : Hp} {ys zs : List V} {as bs : List α} (h : LR R H ys as) (h' : LR R H zs bs) : LR R H (ys ++ zs) (as ++ bs) := by
  refine ⟨by rw [List.length_append, List.length_append, h.1, h'.1], fun j v z => ?_⟩
  by_cases hj : j < ys.length
  · rw [List.getElem?_append_left hj] at z
    obtain ⟨q, e, f, g, t⟩ := h.2 j v z
    exact ⟨q, e, f, by rw [List.getElem?_append_left (by rw [← h.1]; exact hj)]; exact g, t⟩
  · rw [List.getElem?_append_right (by omega)] at z
    obtain ⟨q, e, f, g, t⟩ := h'.2 _ v z
    exact ⟨q, e, f, by rw [List.getElem?_append_right (by rw [← h.1]; omega), ← h.1]; exact g, t⟩
theorem LR.one {H : Hp} {p : Addr} {a : α} (s : R H p a) : LR R H [.ref p] [a] := ⟨rfl, fun j v z => by
  cases j with
  | zero => cases z; exact ⟨p, a, rfl, rfl, s⟩
  | succ n => cases z⟩
theorem LR.snoc {H : Hp} {ys : List V} {as : List α} {p : Addr} {a : α} (h : LR R H ys as) (s : R H p a) : LR R H (ys ++ [.ref p]) (as ++ [a]) := h.app (.one s)
theorem LR.drop {H : Hp} {ys : List V} {as : List α} (h : LR R H ys as) (n : Nat) : LR R H (ys.drop n) (as.drop n) := by
  refine ⟨by rw [List.length_drop, List.length_drop, h.1], fun j v z => ?_⟩
  rw [List.getElem?_drop] at z
  obtain ⟨q, e, f, g, t⟩ := h.2 _ v z
  exact ⟨q, e, f, by rw [List.getElem?_drop]; exact g, t⟩
theorem LR.at {H : Hp} {ys : List V} {as : List α} (h : LR R H ys as) {j : Nat} (hj : j < ys.length) : ∃ (p : Addr) (a : α), ys[j]? = some (.ref p) ∧ as[j]? = some a ∧ R H p a := by
  obtain ⟨p, a, e, f, r⟩ := h.2 j ys[j] (List.getElem?_eq_getElem hj)
  exact ⟨p, a, by rw [List.getElem?_eq_getElem hj, e], f, r⟩
theorem LR.map {β : Type} {f : β → α} {H : Hp} {ys : List V} {bs : List β} (h : LR (fun H p b => R H p (f b)) H ys bs) : LR R H ys (bs.map f) := by
  refine ⟨by rw [List.length_map, h.1], fun j v z => ?_⟩
  obtain ⟨q, e, g, k, t⟩ := h.2 _ v z
  exact ⟨q, f e, g, by rw [List.getElem?_map, k]; rfl, t⟩
theorem LR.cons_inv {H : Hp} {v : V} {vs : List V} {as : List α} (h : LR R H (v :: vs) as) : ∃ a as', as = a :: as' ∧ (∃ p, v = .ref p ∧ R H p a) ∧ LR R H vs as' := by
  cases as with
  | nil => cases h.1
  | cons a as' =>
    refine ⟨a, as', rfl, ?_, Nat.succ.inj h.1, fun j u z => h.2 (j + 1) u z⟩
    obtain ⟨p, b, e, f, r⟩ := h.2 0 v rfl
    cases f
    exact ⟨p, e, r⟩
theorem LR.cons {H : Hp} {v : V} {vs : List V} {a : α} {as : List α} (h : ∃ p, v = .ref p ∧ R H p a) (t : LR R H vs as) : LR R H (v :: vs) (a :: as) := by
  obtain ⟨p, rfl, r⟩ := h
  exact (LR.one r).app t
theorem LR.perm {H : Hp} {vs ys : List V} (h : vs.Perm ys) : ∀ {as : List α}, LR R H vs as → ∃ as', as.Perm as' ∧ LR R H ys as' := by
  induction h with
  | nil => exact fun {as} t => ⟨as, .refl _, t⟩
  | cons v _ ih =>
    intro as t
    obtain ⟨a, as', rfl, hp, t'⟩ := t.cons_inv
    obtain ⟨bs, pb, tb⟩ := ih t'
    exact ⟨a :: bs, pb.cons a, .cons hp tb⟩
  | swap u v l =>
    intro as t
    obtain ⟨a, as', rfl, hp, t'⟩ := t.cons_inv
    obtain ⟨b, as2, rfl, hq, t2⟩ := t'.cons_inv
    exact ⟨b :: a :: as2, .swap b a as2, .cons hq (.cons hp t2)⟩
  | trans _ _ i1 i2 =>
    intro as t
    obtain ⟨bs, p1, t1⟩ := i1 t
    obtain ⟨cs, p2, t2⟩ := i2 t1
    exact ⟨cs, p1.trans p2, t2⟩
def iv_lr (R : Hp → Addr → α → Prop) (as : List α) (H2 : Hp) (D : Addr) : Nat → List V → Hp → Prop := fun i ys H' => Same H2 H' ∧ H' D = some (.lst ys) ∧ ys.length = i ∧ LR R H' ys (as.take i)
theorem iv_lr_nil {as : List α} {H2 : Hp} {D : Addr} (hD : H2 D = none) : iv_lr R as H2 D 0 [] (upd H2 D (.lst [])) := ⟨same_new hD _, upd_same, rfl, by rw [List.take_zero]; exact .nil⟩
theorem iv_lr_put (hR : ∀ H H' p a, TupSame H H' → R H p a → R H' p a) {m : Nat} {H2 H3 H4 : Hp} {D : Addr} {i : Nat} {ys : List V} {p : Addr} {as : List α} {a : α} (hD : H2 D = none) (hm : m < 100000) (iv : iv_lr R as H2 D i ys H3) (hi : i < m) (ha : as[i]? = some a) (g4 : Same H3 H4) (hp : R H4 p a) : CPut m (iv_lr R as H2 D) D i (.ref p) H4 := by
  obtain ⟨g3', hD3, hy, hall⟩ := iv
  have hD4 := g4 _ _ hD3
  refine cw_put hi hD4 (by rw [hy]; exact Nat.lt_trans hi (Nat.lt_trans hm (by decide))) ⟨same_put (g3'.trans g4) hD, upd_same, by rw [List.length_append, hy]; rfl, ?_⟩
  rw [List.take_add_one, ha]
  exact ((hall.ts hR (ts_same g4)).snoc hp).ts hR (ts_put hD4)
end
theorem op_notInK {X : Cx} {K' : PySem.W.Frag} (hK : X.K = K') (hu : X.A.units + 64 < cLine) : OpR X (compareOp .NotIn) (rNotInL K') := by subst hK; exact op_notInL hu
theorem keyKP_pairs80 {X : Cx} (hu : X.A.units + 80 < cLine) : KeyKP X KPp := keyKP_pairs (by omega)
theorem ts_trans {H H' H'' : Hp} (a : TupSame H H') (b : TupSame H' H'') : TupSame H H'' := fun p xs h => b _ _ (a _ _ h)
def QH (H : Hp) (p : Addr) (r : Q3) : Prop := H p = some (.tup [.int r.x, .int r.y, .int r.w]) ∧ PQ 60 r
theorem qh_ts : ∀ (H H' : Hp) (p : Addr) (r : Q3), TupSame H H' → QH H p r → QH H' p r := fun _ _ _ _ g h => ⟨g _ _ h.1, h.2⟩
theorem QH.same {H H' : Hp} {p : Addr} {r : Q3} (h : QH H p r) (g : Same H H') : QH H' p r := ⟨g _ _ h.1, h.2⟩
theorem QH.tb {H : Hp} {p : Addr} {r : Q3} (h : QH H p r) {n : Nat} (hn : 60 ≤ n := by decide) : TB n H p r.x r.y r.w := ⟨h.1, Pt.bd h.2 hn⟩
theorem QH.of {H : Hp} {p : Addr} {a b c : Int} (h : PtH 60 H p a b c) : QH H p ⟨a, b, c⟩ := h
theorem LR.same {H H' : Hp} {ys : List V} {ps : List Q3} (h : LR QH H ys ps) (g : Same H H') : LR QH H' ys ps := h.ts qh_ts (ts_same g)
theorem LR.take {α : Type} {R : Hp → Addr → α → Prop} {H : Hp} {ys : List V} {as : List α} (h : LR R H ys as) (n : Nat) : LR R H (ys.take n) (as.take n) := by
  refine ⟨by rw [List.length_take, List.length_take, h.1], fun j v z => ?_⟩
  rw [List.getElem?_take] at z
  by_cases c : j < n
  · rw [if_pos c] at z
    obtain ⟨q, e, f, g, t⟩ := h.2 _ v z
    exact ⟨q, e, f, by rw [List.getElem?_take, if_pos c]; exact g, t⟩
  · rw [if_neg c] at z
    cases z
theorem LR.reverse {α : Type} {R : Hp → Addr → α → Prop} {H : Hp} {ys : List V} {as : List α} (h : LR R H ys as) : LR R H ys.reverse as.reverse := by
  refine ⟨by rw [List.length_reverse, List.length_reverse, h.1], fun j v z => ?_⟩
  have hj : j < ys.length := by have := (List.getElem?_eq_some_iff.mp z).1; rwa [List.length_reverse] at this
  rw [List.getElem?_reverse hj] at z
  obtain ⟨q, e, f, g, t⟩ := h.2 _ v z
  exact ⟨q, e, f, by rw [List.getElem?_reverse (by rw [← h.1]; exact hj), ← h.1]; exact g, t⟩
section
variable {P : Program} {w : World} {K : PySem.W.Frag} {mg : Str → Option Value} {base : Heap} {ad : Nat → Addr} {fd : Nat → FuncData}
theorem ok_law_divisor (T : Txt K mg ad fd) : FnOk P w K mg base CX0 1 (ad 5) (fd 5) ["_law_one", "_law_other"] sp_divisor := by
  refine T.law_divisor.fn.ok sc_law_divisor (fun vs H Q E h => ?_) (fun cdv A outer s H vs Q E hr h => ?_)
  · obtain ⟨a, b, rfl, _⟩ := h
    rfl
  obtain ⟨a, b, rfl, q⟩ := h
  have qpss2 := @pss2
  have qps_while := @ps_while
  have qpt_cmpR := @pt_cmpR
  have qpv := @pv
  have qpe_int := @pe_int
  have qpss_one := @pss_one
  have qps_par := @ps_par
  have qpa2 := @pa2
  have qpe_op := @pe_op
  have qps_ret := @ps_ret
  have qpe_callB := @pe_callB
  have qpa1 := @pa1
  generalize @L2.PE = QE, @L2.PT = QT, @L2.PW = QW, @L2.PA = QA, @L2.PS = QS, @L2.PSs = QSs, @L2.PG = QG, @L2.PGs = QGs, @L2.PI = QI, @L2.PO = QO, @L2.PIf = QIf at qpss2 qps_while qpt_cmpR qpv qpe_int qpss_one qps_par qpa2 qpe_op qps_ret qpe_callB qpa1 ⊢
  refine ⟨_,
    (qpss2
      (qps_while PassesOwn.never (qpt_cmpR op_ne (qpv 1) qpe_int (nomark _)) (qpss_one (qps_par (i := 0) (j := 1) rfl sc_law_divisor.nd rfl rfl (by decide) rfl rfl (qpa2 (qpv 1) ns_Name (qpe_op op_modN (qpv 0) (qpv 1)) ns_BinOp) rfl)))
      (qps_ret (qpe_callB call_abs rfl T.b_abs bt_abs (qpa1 (qpv 0) ns_Name))))
    , ?_⟩
  clear  qpss2 qps_while qpt_cmpR qpv qpe_int qpss_one qps_par qpa2 qpe_op qps_ret qpe_callB qpa1 QE QT QW QA QS QSs QG QGs QI QO QIf
  simp only [tSeq, tNext, tRet, tRetN, tIfS, tAsg, gName, tDrop, tVar, tC, tOp, tUn, rI, rI0, rU, rEq, rNe, tTest, tB, tNot, tAnd, tOr, tAndV, tOrV, tNotV, tIf, tCB, tCall, tNil, tCons, tTup, tLst, gTup, gCons, gNil, L2.start, rIsi, rIxT, rIxL, cx_K, tyN_non, tyN_bl, tyN_int, tyN_str, isi_ii, isi_ib, isi_it, isi_il, isi_bi, isi_bb, isi_tt, isi_ni, isi_si, isi_ti, isi_li, isi_di, isi_ll, scal_ii, scal_bb, sz0, sz1, sz2, sz3, sz4, List.map_cons, List.map_nil, List.length_cons, List.length_nil, List.replicate, List.cons_append, List.nil_append, List.append_nil, List.getElem?_cons_zero, List.getElem?_cons_succ, List.set_cons_zero, List.set_cons_succ, Option.some.injEq, V.int.injEq, V.bl.injEq, V.ref.injEq, V.ty.injEq, List.cons.injEq, and_true, true_and, exists_eq_left, exists_eq_left', exists_and_left, exists_and_right, exists_eq, exists_eq', and_assoc, Nat.reduceAdd, Nat.reduceSub, Bool.not_true, Bool.not_false, Bool.false_eq_true, if_true, if_false, reduceIte, Nat.zero_add, decide_true, decide_false, selC, comp_K, tYes, Option.join_some, rIxTH, rIxLH, rLenH, rIsiF, at0, at1, at2, at3, at4, at5, at6, at7, at8, HO.tup.injEq, HO.lst.injEq, reduceCtorEq, false_or, or_false, tyF_non, tyF_bl, tyF_int, tyF_str, exists_const, Int.reduceAdd, Int.reduceMul, Int.reduceSub, gSub, rSetL, tSl, tPart, tNoPart, rSlH, upd_same, upd_upd, rIntB, rListH, tBM, tBM0, rAppend, rClear, tPar, gTupH]
  refine while_by (iv_ldiv a b H) (fun σ _ => (getI σ 1).natAbs) ⟨rfl, _, _, rfl, rfl⟩ ?_
    (fun σ H Q Q' m h => by obtain ⟨v, e, s, k, e2, q⟩ := h; exact ⟨v, e, s, k, e2, m _ _ q⟩)
  rintro σ H' ⟨rfl, x, y, rfl, e⟩
  simp only [tSeq, tNext, tRet, tRetN, tIfS, tAsg, gName, tDrop, tVar, tC, tOp, tUn, rI, rI0, rU, rEq, rNe, tTest, tB, tNot, tAnd, tOr, tAndV, tOrV, tNotV, tIf, tCB, tCall, tNil, tCons, tTup, tLst, gTup, gCons, gNil, L2.start, rIsi, rIxT, rIxL, cx_K, tyN_non, tyN_bl, tyN_int, tyN_str, isi_ii, isi_ib, isi_it, isi_il, isi_bi, isi_bb, isi_tt, isi_ni, isi_si, isi_ti, isi_li, isi_di, isi_ll, scal_ii, scal_bb, sz0, sz1, sz2, sz3, sz4, List.map_cons, List.map_nil, List.length_cons, List.length_nil, List.replicate, List.cons_append, List.nil_append, List.append_nil, List.getElem?_cons_zero, List.getElem?_cons_succ, List.set_cons_zero, List.set_cons_succ, Option.some.injEq, V.int.injEq, V.bl.injEq, V.ref.injEq, V.ty.injEq, List.cons.injEq, and_true, true_and, exists_eq_left, exists_eq_left', exists_and_left, exists_and_right, exists_eq, exists_eq', and_assoc, Nat.reduceAdd, Nat.reduceSub, Bool.not_true, Bool.not_false, Bool.false_eq_true, if_true, if_false, reduceIte, Nat.zero_add, decide_true, decide_false, selC, comp_K, tYes, Option.join_some, rIxTH, rIxLH, rLenH, rIsiF, at0, at1, at2, at3, at4, at5, at6, at7, at8, HO.tup.injEq, HO.lst.injEq, reduceCtorEq, false_or, or_false, tyF_non, tyF_bl, tyF_int, tyF_str, exists_const, Int.reduceAdd, Int.reduceMul, Int.reduceSub, gSub, rSetL, tSl, tPart, tNoPart, rSlH, upd_same, upd_upd, rIntB, rListH, tBM, tBM0, rAppend, rClear, tPar, gTupH]
  refine ite2 (fun c => ?_) (fun c => ?_)
  · have hy : y ≠ 0 := by simpa using c
    exact ⟨hy, ⟨rfl, _, _, rfl, (G_fmod x y).trans e⟩, fmod_small hy⟩
  · have hy : y = 0 := by simpa using c
    subst hy
    rw [G_end, e]
    exact q
def kQ (r : Q3) : List Key := [.inl r.x, .inl r.y, .inl r.w]
theorem kQ_inj {p q : Q3} (h : kQ p = kQ q) : p = q := by
  obtain ⟨x, y, w⟩ := p
  obtain ⟨x', y', w'⟩ := q
  unfold kQ at h
  cases h
  rfl
theorem kQ_map (r : Q3) : (kQ r).map kV = [.int r.x, .int r.y, .int r.w] := rfl
def KyOk (H : Hp) (kvs : List (List Key × V)) (g : Int) (ps : List Q3) : Prop := ∀ p, p ∈ ps → ∃ b, valV kvs (kQ p) = some (.ref b) ∧ H b = some (.tup [.int (kyQ g p).1, .int (kyQ g p).2])
theorem KyOk.ts {H H' : Hp} {kvs : List (List Key × V)} {g : Int} {ps : List Q3} (h : KyOk H kvs g ps) (t : TupSame H H') : KyOk H' kvs g ps := fun p hp => by
  obtain ⟨b, e, hb⟩ := h p hp
  exact ⟨b, e, t _ _ hb⟩
def sp_okeys : Sp := fun vs H Q _ => ∃ (l : Addr) (ys : List V) (ps : List Q3), vs = [.ref l] ∧ H l = some (.lst ys) ∧ ys.length ≤ 1000 ∧ LR QH H ys ps ∧
  ∀ d kvs g (qs : List Q3) H', Same H H' → H' d = some (.dT kvs) → 0 < g → (∀ p, p ∈ ps → p.w ≤ g) → KyOk H' kvs g ps → kvs.map Prod.fst = qs.map kQ → qs.Nodup → (∀ p, p ∈ qs ↔ p ∈ ps) → qs.length ≤ ps.length → Q (.ref d) H'
theorem ts_putD {H : Hp} {D : Addr} {kvs : List (List Key × V)} {o : HO} (h : H D = some (.dT kvs)) : TupSame H (upd H D o) := fun b xs q => by
  rw [upd_ne (fun z => by rw [z, h] at q; cases q)]
  exact q
theorem ok_order_keys (T : Txt K mg ad fd) : FnOk P w K mg base CX0 1 (ad 0) (fd 0) ["points"] sp_okeys := by
  refine T.order_keys.fn.ok sc_order_keys (fun vs H Q E h => ?_) (fun cdv A outer s H vs Q E hr h => ?_)
  · obtain ⟨l, ys, ps, rfl, _⟩ := h
    rfl
  obtain ⟨l, ys, ps, rfl, hl, hn, hp, k⟩ := h
  have hs : ∀ p, p ∈ ps → 0 < p.w ∧ p.x.natAbs < 2 ^ 80 ∧ p.y.natAbs < 2 ^ 80 ∧ p.w.natAbs < 2 ^ 80 := fun p hp' => by
    obtain ⟨j, hj⟩ := List.mem_iff_getElem?.mp hp'
    have hj' : j < ys.length := by rw [hp.1]; exact (List.getElem?_eq_some_iff.mp hj).1
    obtain ⟨b, r, _, e2, hr⟩ := hp.at hj'
    rw [hj] at e2
    cases e2
    exact ⟨hr.2.pos, lt_mono hr.2.lx (by decide), lt_mono hr.2.ly (by decide), lt_mono hr.2.lw (by decide)⟩
  have qpss5 := @pss5
  have qps_set := @ps_set
  have qpe_callBK := @pe_callBK
  have qpa1 := @pa1
  have qpe_comp := @pe_comp
  unfold L2.CompBody at qpe_comp
  have qpi_list := @pi_list
  have qpv := @pv
  have qpg_name := @pg_name
  have qpif_nil := @pif_nil
  have qpe_ix := @pe_ix
  have qpe_int := @pe_int
  have qpk_cons := @pk_cons
  have qpk_nil := @pk_nil
  have qpe_op := @pe_op
  have qpe_dnewT := @pe_dnewT
  have qps_for := @ps_for
  have qpss_one := @pss_one
  have qps_if := @ps_if
  have qpt_cmp := @pt_cmp
  have qpc_dnotin := @pc_dnotin
  have qps_dput := @ps_dput
  have qpe_tup := @pe_tup
  have qpa2 := @pa2
  have qpss_nil := @pss_nil
  have qps_ret := @ps_ret
  generalize @L2.PE = QE, @L2.PT = QT, @L2.PW = QW, @L2.PA = QA, @L2.PS = QS, @L2.PSs = QSs, @L2.PG = QG, @L2.PGs = QGs, @L2.PI = QI, @L2.PO = QO, @L2.PIf = QIf, @L2.PC = QC, @L2.PK = QK at qpss5 qps_set qpe_callBK qpa1 qpe_comp qpi_list qpv qpg_name qpif_nil qpe_ix qpe_int qpk_cons qpk_nil qpe_op qpe_dnewT qps_for qpss_one qps_if qpt_cmp qpc_dnotin qps_dput qpe_tup qpa2 qpss_nil qps_ret ⊢
  refine ⟨_,
    (qpss5
      (qps_set (i := 1) sc_order_keys.nd rfl (Or.inl rfl) (qpe_callBK (call_maxD rfl) rfl T.b_max bt_max (qpa1 (qpe_comp (dsc := defScope s_order_keys) (N := ["points", "greatest", "scale", "keys", "P"]) (own := ["P"]) (ix := []) rfl rfl rfl ⟨rfl, by decide +kernel, by decide +kernel, by decide +kernel, by decide +kernel⟩ (qpi_list (qpv 0)) (fun cl C fp s2 H2 xe => ⟨(qpg_name (i := 0) (show List.Nodup (["P"] : List Str) from by decide +kernel) rfl (Or.inl rfl)), qpif_nil, (qpe_ix ix_tupH (qpv 0) qpe_int (fun _ _ => rfl))⟩)) ns_ListComp) (qpk_cons qpe_int qpk_nil)))
      (qps_set (i := 2) sc_order_keys.nd rfl (Or.inl rfl) (qpe_op op_mulB (qpv 1) (qpv 1)))
      (qps_set (i := 3) sc_order_keys.nd rfl (Or.inl rfl) qpe_dnewT)
      (qps_for PassesOwn.never rfl (qpi_list (qpv 0)) (qpg_name (i := 4) sc_order_keys.nd rfl (Or.inl rfl)) (qpss_one (qps_if (qpt_cmp (qpc_dnotin (hu_of hr) (qpv 4) (qpv 3))) (qpss_one (qps_dput (hu_of hr) (qpv 3) (qpv 4) (qpe_tup (qpa2 (qpe_op op_fdivB (qpe_op op_mulB (qpe_ix ix_tupH (qpv 4) qpe_int (fun _ _ => rfl)) (qpv 2)) (qpe_ix ix_tupH (qpv 4) qpe_int (fun _ _ => rfl))) ns_BinOp (qpe_op op_fdivB (qpe_op op_mulB (qpe_ix ix_tupH (qpv 4) qpe_int (fun _ _ => rfl)) (qpv 2)) (qpe_ix ix_tupH (qpv 4) qpe_int (fun _ _ => rfl))) ns_BinOp)) rfl)) qpss_nil)))
      (qps_ret (qpv 3)))
    , ?_⟩
  clear  qpss5 qps_set qpe_callBK qpa1 qpe_comp qpi_list qpv qpg_name qpif_nil qpe_ix qpe_int qpk_cons qpk_nil qpe_op qpe_dnewT qps_for qpss_one qps_if qpt_cmp qpc_dnotin qps_dput qpe_tup qpa2 qpss_nil qps_ret QE QT QW QA QS QSs QG QGs QI QO QIf QC QK
  simp only [tSeq, tNext, tRet, tRetN, tIfS, tAsg, gName, tDrop, tVar, tC, tOp, tUn, rI, rI0, rU, rEq, rNe, tTest, tB, tNot, tAnd, tOr, tAndV, tOrV, tNotV, tIf, tCB, tCall, tNil, tCons, tTup, tLst, gTup, gCons, gNil, L2.start, rIsi, rIxT, rIxL, cx_K, tyN_non, tyN_bl, tyN_int, tyN_str, isi_ii, isi_ib, isi_it, isi_il, isi_bi, isi_bb, isi_tt, isi_ni, isi_si, isi_ti, isi_li, isi_di, isi_ll, scal_ii, scal_bb, sz0, sz1, sz2, sz3, sz4, List.map_cons, List.map_nil, List.length_cons, List.length_nil, List.replicate, List.cons_append, List.nil_append, List.append_nil, List.getElem?_cons_zero, List.getElem?_cons_succ, List.set_cons_zero, List.set_cons_succ, Option.some.injEq, V.int.injEq, V.bl.injEq, V.ref.injEq, V.ty.injEq, List.cons.injEq, and_true, true_and, exists_eq_left, exists_eq_left', exists_and_left, exists_and_right, exists_eq, exists_eq', and_assoc, Nat.reduceAdd, Nat.reduceSub, Bool.not_true, Bool.not_false, Bool.false_eq_true, if_true, if_false, reduceIte, Nat.zero_add, decide_true, decide_false, selC, comp_K, tYes, Option.join_some, rIxTH, rIxLH, rLenH, rIsiF, at0, at1, at2, at3, at4, at5, at6, at7, at8, HO.tup.injEq, HO.lst.injEq, reduceCtorEq, false_or, or_false, tyF_non, tyF_bl, tyF_int, tyF_str, exists_const, Int.reduceAdd, Int.reduceMul, Int.reduceSub, gSub, rSetL, tSl, tPart, tNoPart, rSlH, upd_same, upd_upd, rIntB, rListH, tBM, tBM0, rAppend, rClear, tPar, gTupH, tCBK]
  refine tComp_mk ?_
  simp only [iList, tSeq, tNext, tRet, tRetN, tIfS, tAsg, gName, tDrop, tVar, tC, tOp, tUn, rI, rI0, rU, rEq, rNe, tTest, tB, tNot, tAnd, tOr, tAndV, tOrV, tNotV, tIf, tCB, tCall, tNil, tCons, tTup, tLst, gTup, gCons, gNil, L2.start, rIsi, rIxT, rIxL, cx_K, tyN_non, tyN_bl, tyN_int, tyN_str, isi_ii, isi_ib, isi_it, isi_il, isi_bi, isi_bb, isi_tt, isi_ni, isi_si, isi_ti, isi_li, isi_di, isi_ll, scal_ii, scal_bb, sz0, sz1, sz2, sz3, sz4, List.map_cons, List.map_nil, List.length_cons, List.length_nil, List.replicate, List.cons_append, List.nil_append, List.append_nil, List.getElem?_cons_zero, List.getElem?_cons_succ, List.set_cons_zero, List.set_cons_succ, Option.some.injEq, V.int.injEq, V.bl.injEq, V.ref.injEq, V.ty.injEq, List.cons.injEq, and_true, true_and, exists_eq_left, exists_eq_left', exists_and_left, exists_and_right, exists_eq, exists_eq', and_assoc, Nat.reduceAdd, Nat.reduceSub, Bool.not_true, Bool.not_false, Bool.false_eq_true, if_true, if_false, reduceIte, Nat.zero_add, decide_true, decide_false, selC, comp_K, tYes, Option.join_some, rIxTH, rIxLH, rLenH, rIsiF, at0, at1, at2, at3, at4, at5, at6, at7, at8, HO.tup.injEq, HO.lst.injEq, reduceCtorEq, false_or, or_false, tyF_non, tyF_bl, tyF_int, tyF_str, exists_const, Int.reduceAdd, Int.reduceMul, Int.reduceSub, gSub, rSetL, tSl, tPart, tNoPart, rSlH, upd_same, upd_upd, rIntB, rListH, tBM, tBM0, rAppend, rClear, tPar, gTupH]
  refine ⟨⟨_, .of hl⟩, fun D hD => ?_⟩
  refine comp_list (xs := ys) (fun i zs H' => Same H H' ∧ H' D = some (.lst zs) ∧ zs = ((ps.take i).map fun p => V.int p.w)) ⟨same_new hD _, upd_same, by rw [List.take_zero]; rfl⟩ (fun i zs H' p => .of (p.1 _ _ hl)) ?_ ?_
  · rintro i zs H1 v hi hv ⟨g1, hD1, ez⟩
    obtain ⟨p, r, rfl, hr', hq⟩ := hp.2 i v hv
    have hq1 : H1 p = some (.tup [.int r.x, .int r.y, .int r.w]) := g1 _ _ hq.1
    simp only [tSeq, tNext, tRet, tRetN, tIfS, tAsg, gName, tDrop, tVar, tC, tOp, tUn, rI, rI0, rU, rEq, rNe, tTest, tB, tNot, tAnd, tOr, tAndV, tOrV, tNotV, tIf, tCB, tCall, tNil, tCons, tTup, tLst, gTup, gCons, gNil, L2.start, rIsi, rIxT, rIxL, cx_K, tyN_non, tyN_bl, tyN_int, tyN_str, isi_ii, isi_ib, isi_it, isi_il, isi_bi, isi_bb, isi_tt, isi_ni, isi_si, isi_ti, isi_li, isi_di, isi_ll, scal_ii, scal_bb, sz0, sz1, sz2, sz3, sz4, List.map_cons, List.map_nil, List.length_cons, List.length_nil, List.replicate, List.cons_append, List.nil_append, List.append_nil, List.getElem?_cons_zero, List.getElem?_cons_succ, List.set_cons_zero, List.set_cons_succ, Option.some.injEq, V.int.injEq, V.bl.injEq, V.ref.injEq, V.ty.injEq, List.cons.injEq, and_true, true_and, exists_eq_left, exists_eq_left', exists_and_left, exists_and_right, exists_eq, exists_eq', and_assoc, Nat.reduceAdd, Nat.reduceSub, Bool.not_true, Bool.not_false, Bool.false_eq_true, if_true, if_false, reduceIte, Nat.zero_add, decide_true, decide_false, selC, comp_K, tYes, Option.join_some, rIxTH, rIxLH, rLenH, rIsiF, at0, at1, at2, at3, at4, at5, at6, at7, at8, HO.tup.injEq, HO.lst.injEq, reduceCtorEq, false_or, or_false, tyF_non, tyF_bl, tyF_int, tyF_str, exists_const, Int.reduceAdd, Int.reduceMul, Int.reduceSub, gSub, rSetL, tSl, tPart, tNoPart, rSlH, upd_same, upd_upd, rIntB, rListH, tBM, tBM0, rAppend, rClear, tPar, gTupH, hq1]
    refine cw_put hi hD1 ?_ ⟨same_put g1 hD, upd_same, ?_⟩
    · rw [ez, List.length_map, List.length_take]
      exact small1000 (by have := Nat.min_le_left i ps.length; omega)
    · rw [List.take_add_one, hr', ez, List.map_append]
      rfl
  · rintro zs H1 ⟨g1, hD1, ez⟩
    rw [List.take_of_length_le (by rw [hp.1]; exact Nat.le_refl _)] at ez
    refine ⟨D, ps.map fun p => p.w, 1, rfl, rfl, by rw [hD1, ez, List.map_map]; rfl, fun g gm gi => ?_⟩
    have g0 : 0 < g := by
      rcases gi with gi | gi
      · obtain ⟨p, hp', e⟩ := List.mem_map.mp gi
        have := (hs p hp').1
        omega
      · omega
    have gs : g.natAbs < 2 ^ 80 := by
      rcases gi with gi | gi
      · obtain ⟨p, hp', e⟩ := List.mem_map.mp gi
        rw [← e]
        exact (hs p hp').2.2.2
      · rw [gi.2]; decide
    refine ⟨g, rfl, g, rfl, cbig gs gs, fun d hd => ?_⟩
    have gg : (g * g).natAbs < 2 ^ 160 := by
      rw [Int.natAbs_mul]
      exact Nat.lt_of_lt_of_le (Nat.mul_lt_mul'' gs gs) (by decide)
    refine tFor_mk ?_
    simp only [iList, tSeq, tNext, tRet, tRetN, tIfS, tAsg, gName, tDrop, tVar, tC, tOp, tUn, rI, rI0, rU, rEq, rNe, tTest, tB, tNot, tAnd, tOr, tAndV, tOrV, tNotV, tIf, tCB, tCall, tNil, tCons, tTup, tLst, gTup, gCons, gNil, L2.start, rIsi, rIxT, rIxL, cx_K, tyN_non, tyN_bl, tyN_int, tyN_str, isi_ii, isi_ib, isi_it, isi_il, isi_bi, isi_bb, isi_tt, isi_ni, isi_si, isi_ti, isi_li, isi_di, isi_ll, scal_ii, scal_bb, sz0, sz1, sz2, sz3, sz4, List.map_cons, List.map_nil, List.length_cons, List.length_nil, List.replicate, List.cons_append, List.nil_append, List.append_nil, List.getElem?_cons_zero, List.getElem?_cons_succ, List.set_cons_zero, List.set_cons_succ, Option.some.injEq, V.int.injEq, V.bl.injEq, V.ref.injEq, V.ty.injEq, List.cons.injEq, and_true, true_and, exists_eq_left, exists_eq_left', exists_and_left, exists_and_right, exists_eq, exists_eq', and_assoc, Nat.reduceAdd, Nat.reduceSub, Bool.not_true, Bool.not_false, Bool.false_eq_true, if_true, if_false, reduceIte, Nat.zero_add, decide_true, decide_false, selC, comp_K, tYes, Option.join_some, rIxTH, rIxLH, rLenH, rIsiF, at0, at1, at2, at3, at4, at5, at6, at7, at8, HO.tup.injEq, HO.lst.injEq, reduceCtorEq, false_or, or_false, tyF_non, tyF_bl, tyF_int, tyF_str, exists_const, Int.reduceAdd, Int.reduceMul, Int.reduceSub, gSub, rSetL, tSl, tPart, tNoPart, rSlH, upd_same, upd_upd, rIntB, rListH, tBM, tBM0, rAppend, rClear, tPar, gTupH]
    have g2 := same_new hd (HO.dT [])
    refine ⟨⟨_, .of (g2 _ _ (g1 _ _ hl))⟩, ?_⟩
    refine for_list (K := K) (a := l) (xs := ys) (fun i σ H' => Same H1 H' ∧ ∃ (kvs : List (List Key × V)) (o : Option V), σ = [some (.ref l), some (.int g), some (.int (g * g)), some (.ref d), o] ∧ H' d = some (.dT kvs) ∧ kvs.length ≤ i ∧ KyOk H' kvs g (ps.take i) ∧ (∀ p, (valV kvs (kQ p)).isSome = true → p ∈ ps.take i) ∧ ∃ qs : List Q3, kvs.map Prod.fst = qs.map kQ ∧ qs.Nodup ∧ (∀ p, p ∈ qs ↔ p ∈ ps.take i) ∧ qs.length ≤ i)
      ⟨g2, [], none, rfl, upd_same, Nat.le_refl _, fun p hp' => (by rw [List.take_zero] at hp'; cases hp'), fun p z => (by cases z), [], rfl, .nil, fun p => (by rw [List.take_zero]), Nat.le_refl _⟩ (fun i σ H' _ iv => .of (iv.1 _ _ (g1 _ _ hl))) ?_ ?_
    · rintro i v σ H2 hi ⟨g3, kvs, o, rfl, hd2, hk, ky, kb, qs, q1, q2, q3, q4⟩
      obtain ⟨p, r, rfl, hr', hq⟩ := hp.2 i v hi
      have hq2 : H2 p = some (.tup [.int r.x, .int r.y, .int r.w]) := g3 _ _ (g1 _ _ hq.1)
      simp only [tSeq, tNext, tRet, tRetN, tIfS, tAsg, gName, tDrop, tVar, tC, tOp, tUn, rI, rI0, rU, rEq, rNe, tTest, tB, tNot, tAnd, tOr, tAndV, tOrV, tNotV, tIf, tCB, tCall, tNil, tCons, tTup, tLst, gTup, gCons, gNil, L2.start, rIsi, rIxT, rIxL, cx_K, tyN_non, tyN_bl, tyN_int, tyN_str, isi_ii, isi_ib, isi_it, isi_il, isi_bi, isi_bb, isi_tt, isi_ni, isi_si, isi_ti, isi_li, isi_di, isi_ll, scal_ii, scal_bb, sz0, sz1, sz2, sz3, sz4, List.map_cons, List.map_nil, List.length_cons, List.length_nil, List.replicate, List.cons_append, List.nil_append, List.append_nil, List.getElem?_cons_zero, List.getElem?_cons_succ, List.set_cons_zero, List.set_cons_succ, Option.some.injEq, V.int.injEq, V.bl.injEq, V.ref.injEq, V.ty.injEq, List.cons.injEq, and_true, true_and, exists_eq_left, exists_eq_left', exists_and_left, exists_and_right, exists_eq, exists_eq', and_assoc, Nat.reduceAdd, Nat.reduceSub, Bool.not_true, Bool.not_false, Bool.false_eq_true, if_true, if_false, reduceIte, Nat.zero_add, decide_true, decide_false, selC, comp_K, tYes, Option.join_some, rIxTH, rIxLH, rLenH, rIsiF, at0, at1, at2, at3, at4, at5, at6, at7, at8, HO.tup.injEq, HO.lst.injEq, reduceCtorEq, false_or, or_false, tyF_non, tyF_bl, tyF_int, tyF_str, exists_const, Int.reduceAdd, Int.reduceMul, Int.reduceSub, gSub, rSetL, tSl, tPart, tNoPart, rSlH, upd_same, upd_upd, rIntB, rListH, tBM, tBM0, rAppend, rClear, tPar, gTupH, tDNotIn, sDPut, hq2]
      obtain ⟨r0, rx, ry, rw'⟩ := hs r (List.mem_of_getElem? hr')
      have wn : r.w ≠ 0 := by omega
      rw [List.take_add_one, hr']
      refine ⟨_, .t (k := kQ r) hd2 hq2, ite2 (fun c => ⟨cbig rx gg, cdivb wn rw', cbig ry gg, cdivb wn rw', fun t ht => ?_⟩) fun c => ?_⟩
      · rw [Int.fdiv_eq_ediv_of_nonneg _ (by omega), Int.fdiv_eq_ediv_of_nonneg _ (by omega)]
        have nv : valV kvs (kQ r) = none := by
          cases e : valV kvs (kQ r) with
          | none => rfl
          | some u => rw [e] at c; cases c
        have g4 := same_new ht (HO.tup [V.int (r.x * (g * g) / r.w), V.int (r.y * (g * g) / r.w)])
        have ht4 : upd H2 t (HO.tup [V.int (r.x * (g * g) / r.w), V.int (r.y * (g * g) / r.w)]) t = some (HO.tup [V.int (r.x * (g * g) / r.w), V.int (r.y * (g * g) / r.w)]) := upd_same
        generalize upd H2 t (HO.tup [V.int (r.x * (g * g) / r.w), V.int (r.y * (g * g) / r.w)]) = H4 at *
        have hd4 := g4 _ _ hd2
        refine ⟨_, .t (k := kQ r) hd4 (g4 _ _ hq2) (small1000 (by have := (List.getElem?_eq_some_iff.mp hi).1; omega)), same_put (g3.trans g4) hd, _, upd_same, Nat.le_trans (length_putK _ _ _) (by omega), fun p' hp' => ?_, fun p' z => ?_, qs ++ [r], ?_, ?_, fun p' => ?_, by rw [List.length_append]; exact Nat.succ_le_succ q4⟩
        · rw [valV_put]
          by_cases e : kQ p' = kQ r
          · rw [if_pos e]
            have e' := kQ_inj e
            subst e'
            exact ⟨t, rfl, ts_putD hd4 _ _ ht4⟩
          · rw [if_neg e]
            rcases List.mem_append.mp hp' with hp' | hp'
            · obtain ⟨b, e1, e2⟩ := ky p' hp'
              exact ⟨b, e1, ts_putD hd4 _ _ (g4 _ _ e2)⟩
            · have e' : p' = r := by simpa using hp'
              exact absurd (by rw [e']) e
        · rw [valV_put] at z
          by_cases e : kQ p' = kQ r
          · rw [kQ_inj e]
            exact List.mem_append_right _ (by simp)
          · rw [if_neg e] at z
            exact List.mem_append_left _ (kb p' z)
        · rw [putK_new _ nv, List.map_append, List.map_append, q1]
          rfl
        · exact List.nodup_append.mpr ⟨q2, List.pairwise_singleton _ _, fun a ha b hb e => by
            rw [List.mem_singleton.mp hb] at e
            subst e
            obtain ⟨b', e1, _⟩ := ky a ((q3 a).mp ha)
            rw [nv] at e1
            cases e1⟩
        · rw [List.mem_append, List.mem_append, q3]
          simp
      · have z : (valV kvs (kQ r)).isSome = true := by
          cases e : (valV kvs (kQ r)).isSome with
          | true => rfl
          | false => exact absurd (by rw [e]; rfl) c
        refine ⟨g3, kvs, hd2, by omega, fun p' hp' => ?_, fun p' z' => List.mem_append_left _ (kb p' z'), qs, q1, q2, fun p' => ?_, by omega⟩
        rcases List.mem_append.mp hp' with hp' | hp'
        · exact ky p' hp'
        · have e' : p' = r := by simpa using hp'
          rw [e']
          exact ky r (kb r z)
        · rw [List.mem_append, q3]
          refine ⟨.inl, fun h => h.elim id fun h => ?_⟩
          have e' : p' = r := by simpa using h
          rw [e']
          exact kb r z
    · rintro σ H2 ⟨g3, kvs, o, rfl, hd2, hk, ky, kb, qs, q1, q2, q3, q4⟩
      rw [List.take_of_length_le (by rw [hp.1]; exact Nat.le_refl _)] at ky q3
      simp only [tSeq, tNext, tRet, tRetN, tIfS, tAsg, gName, tDrop, tVar, tC, tOp, tUn, rI, rI0, rU, rEq, rNe, tTest, tB, tNot, tAnd, tOr, tAndV, tOrV, tNotV, tIf, tCB, tCall, tNil, tCons, tTup, tLst, gTup, gCons, gNil, L2.start, rIsi, rIxT, rIxL, cx_K, tyN_non, tyN_bl, tyN_int, tyN_str, isi_ii, isi_ib, isi_it, isi_il, isi_bi, isi_bb, isi_tt, isi_ni, isi_si, isi_ti, isi_li, isi_di, isi_ll, scal_ii, scal_bb, sz0, sz1, sz2, sz3, sz4, List.map_cons, List.map_nil, List.length_cons, List.length_nil, List.replicate, List.cons_append, List.nil_append, List.append_nil, List.getElem?_cons_zero, List.getElem?_cons_succ, List.set_cons_zero, List.set_cons_succ, Option.some.injEq, V.int.injEq, V.bl.injEq, V.ref.injEq, V.ty.injEq, List.cons.injEq, and_true, true_and, exists_eq_left, exists_eq_left', exists_and_left, exists_and_right, exists_eq, exists_eq', and_assoc, Nat.reduceAdd, Nat.reduceSub, Bool.not_true, Bool.not_false, Bool.false_eq_true, if_true, if_false, reduceIte, Nat.zero_add, decide_true, decide_false, selC, comp_K, tYes, Option.join_some, rIxTH, rIxLH, rLenH, rIsiF, at0, at1, at2, at3, at4, at5, at6, at7, at8, HO.tup.injEq, HO.lst.injEq, reduceCtorEq, false_or, or_false, tyF_non, tyF_bl, tyF_int, tyF_str, exists_const, Int.reduceAdd, Int.reduceMul, Int.reduceSub, gSub, rSetL, tSl, tPart, tNoPart, rSlH, upd_same, upd_upd, rIntB, rListH, tBM, tBM0, rAppend, rClear, tPar, gTupH]
      exact k d kvs g qs H2 (g1.trans g3) hd2 g0 (fun p hp' => gm _ (List.mem_map.mpr ⟨p, hp', rfl⟩)) ky q1 q2 q3 (by rw [← hp.1]; exact q4)
def lposB : Pos := (lamAt s_in_order).2
def qlB : Str := (PyProof.Rows.envOfC "in_order" (defScope s_in_order) 0 0 .none).qual ++ "<lambda>"
theorem ltK_lt2 (a b : Int × Int) : ltK a b = lt2 a b := by
  unfold ltK lt2 lexB
  by_cases h : a.1 = b.1
  · rw [if_pos h, if_pos h]
    by_cases h2 : a.2 = b.2
    · rw [if_pos h2]; exact (decide_eq_false (by omega)).symm
    · rw [if_neg h2]
  · rw [if_neg h, if_neg h]
def OrdOf (os ps : List Q3) : Prop := os.Pairwise (Lt 1) ∧ (∀ p, p ∈ os ↔ p ∈ ps) ∧ os.length ≤ ps.length
def sp_inord (tb : Addr) (lp : Pos) (ql : Str) : Sp := fun vs H Q _ => ∃ (l : Addr) (ys : List V) (ps : List Q3), vs = [.ref l] ∧ H l = some (.lst ys) ∧ ys.length ≤ 1000 ∧ LR QH H ys ps ∧ (∀ qs : List Q3, qs.Nodup → (∀ p, p ∈ qs → p ∈ ps) → qs.length < 64) ∧ LamTab H tb lp ql ∧
  ∀ D zs (os : List Q3) H', H D = none → SameT tb H H' → LamTab H' tb lp ql → H' D = some (.lst zs) → LR QH H' zs os → OrdOf os ps → Q (.ref D) H'
theorem mem_pq {H : Hp} {ys : List V} {ps : List Q3} (h : LR QH H ys ps) {p : Q3} (hp : p ∈ ps) : PQ 60 p := by
  obtain ⟨j, hj⟩ := List.mem_iff_getElem?.mp hp
  have hj' : j < ys.length := by rw [h.1]; exact (List.getElem?_eq_some_iff.mp hj).1
  obtain ⟨b, r, _, e2, hr⟩ := h.at hj'
  rw [hj] at e2
  cases e2
  exact hr.2
theorem ky_apart {g : Int} {a b : Q3} (ha : PQ 60 a) (hb : PQ 60 b) (ga : a.w ≤ g) (gb : b.w ≤ g) (ne : a ≠ b) : kyQ g a ≠ kyQ g b := fun e => by
  cases h1 : bq a b with
  | true =>
    have := ky_lt ha.pos hb.pos ga gb h1
    rw [e, sto2.irr] at this
    cases this
  | false =>
    cases h2 : bq b a with
    | true =>
      have := ky_lt hb.pos ha.pos gb ga h2
      rw [e, sto2.irr] at this
      cases this
    | false => exact ne (pq_tri ha hb h1 h2)
theorem ky_back {g : Int} {a b : Q3} (ha : PQ 60 a) (hb : PQ 60 b) (ga : a.w ≤ g) (gb : b.w ≤ g) (h : lt2 (kyQ g a) (kyQ g b) = true) : Lt 1 a b := by
  cases h1 : bq a b with
  | true => exact bq_lt.mp h1
  | false =>
    cases h2 : bq b a with
    | true =>
      have := sto2.tr _ _ _ h (ky_lt hb.pos ha.pos gb ga h2)
      rw [sto2.irr] at this
      cases this
    | false =>
      rw [pq_tri ha hb h1 h2, sto2.irr] at h
      cases h
theorem ok_in_order (T : Txt K mg ad fd) (hK : K.In base) (hB : base.BuiltinsAt mg (ad 18)) : FnOk P w K mg base CX0 3 (ad 1) (fd 1) ["points"] (sp_inord (ad 18) lposB qlB) := by
  refine T.in_order_c.ok sc_in_order (fun vs H Q E h => ?_) (fun A outer s H vs Q E hr h => ?_)
  · obtain ⟨l, ys, ps, rfl, _⟩ := h
    rfl
  obtain ⟨l, ys, ps, rfl, hl, h30, hp, few, lt, k⟩ := h
  have qpss2 := @pss2
  have qps_set := @ps_set
  have qpe_call := @pe_call
  have qpa1 := @pa1
  have qpv := @pv
  have qps_ret := @ps_ret
  have qpe_sortK := @pe_sortK
  have qpe_callTy := @pe_callTy
  have qpe_dget := @pe_dget
  generalize @L2.PE = QE, @L2.PT = QT, @L2.PW = QW, @L2.PA = QA, @L2.PS = QS, @L2.PSs = QSs, @L2.PG = QG, @L2.PGs = QGs, @L2.PI = QI, @L2.PO = QO, @L2.PIf = QIf at qpss2 qps_set qpe_call qpa1 qpv qps_ret qpe_sortK qpe_callTy qpe_dget ⊢
  refine ⟨_,
    (qpss2
      (qps_set (i := 1) sc_in_order.nd rfl (Or.inr rfl) (qpe_call (ok_order_keys T) (hr.mono (by omega)) rfl T.order_keys.mg T.order_keys.fn.kp T.order_keys.bn .nil pass0 (qpa1 (qpv 0) ns_Name)))
      (qps_ret (qpe_sortK (P := ad 18) (c0 := ad 17) (x := "P") (y := "keys") (c := s.heap.objs.size + 1) (i0 := 1) (keyKP_pairs80 (hu80 hr)) hr rfl T.b_sorted (qpa1 (qpe_callTy (call_listD rfl) rfl T.b_list bt_list (qpa1 (qpv 1) ns_Name)) ns_Call) ⟨rfl, rfl, rfl, rfl, rfl, by decide +kernel, by decide +kernel⟩ rfl rfl rfl rfl rfl rfl (PySem.W.codeHd_of_K hK T.in_order_c.hd) hB (fun _ _ _ _ => rfl) (by intro fa2 c2 A2 s3 H3 hu2; exact (qpe_dget (by show A2.units + 3 + 1 < cLine; omega) (qpv 1) (qpv 0) (fun _ _ => rfl))))))
    , ?_⟩
  clear  qpss2 qps_set qpe_call qpa1 qpv qps_ret qpe_sortK qpe_callTy qpe_dget QE QT QW QA QS QSs QG QGs QI QO QIf
  simp only [tSeq, tNext, tRet, tRetN, tIfS, tAsg, gName, tDrop, tVar, tC, tOp, tUn, rI, rI0, rU, rEq, rNe, tTest, tB, tNot, tAnd, tOr, tAndV, tOrV, tNotV, tIf, tCB, tCall, tNil, tCons, tTup, tLst, gTup, gCons, gNil, L2.start, rIsi, rIxT, rIxL, cx_K, tyN_non, tyN_bl, tyN_int, tyN_str, isi_ii, isi_ib, isi_it, isi_il, isi_bi, isi_bb, isi_tt, isi_ni, isi_si, isi_ti, isi_li, isi_di, isi_ll, scal_ii, scal_bb, sz0, sz1, sz2, sz3, sz4, List.map_cons, List.map_nil, List.length_cons, List.length_nil, List.replicate, List.cons_append, List.nil_append, List.append_nil, List.getElem?_cons_zero, List.getElem?_cons_succ, List.set_cons_zero, List.set_cons_succ, Option.some.injEq, V.int.injEq, V.bl.injEq, V.ref.injEq, V.ty.injEq, List.cons.injEq, and_true, true_and, exists_eq_left, exists_eq_left', exists_and_left, exists_and_right, exists_eq, exists_eq', and_assoc, Nat.reduceAdd, Nat.reduceSub, Bool.not_true, Bool.not_false, Bool.false_eq_true, if_true, if_false, reduceIte, Nat.zero_add, decide_true, decide_false, selC, comp_K, tYes, Option.join_some, rIxTH, rIxLH, rLenH, rIsiF, at0, at1, at2, at3, at4, at5, at6, at7, at8, HO.tup.injEq, HO.lst.injEq, reduceCtorEq, false_or, or_false, tyF_non, tyF_bl, tyF_int, tyF_str, exists_const, Int.reduceAdd, Int.reduceMul, Int.reduceSub, gSub, rSetL, tSl, tPart, tNoPart, rSlH, upd_same, upd_upd, rIntB, rListH, tBM, tBM0, rAppend, rClear, tPar, gTupH]
  refine ⟨l, ys, ps, rfl, hl, by omega, hp, fun d kvs g qs H2 g2 hd2 gp gm ky q1 q2 q3 q4 => ?_⟩
  simp only [tSortK, rListD, tSeq, tNext, tRet, tRetN, tIfS, tAsg, gName, tDrop, tVar, tC, tOp, tUn, rI, rI0, rU, rEq, rNe, tTest, tB, tNot, tAnd, tOr, tAndV, tOrV, tNotV, tIf, tCB, tCall, tNil, tCons, tTup, tLst, gTup, gCons, gNil, L2.start, rIsi, rIxT, rIxL, cx_K, tyN_non, tyN_bl, tyN_int, tyN_str, isi_ii, isi_ib, isi_it, isi_il, isi_bi, isi_bb, isi_tt, isi_ni, isi_si, isi_ti, isi_li, isi_di, isi_ll, scal_ii, scal_bb, sz0, sz1, sz2, sz3, sz4, List.map_cons, List.map_nil, List.length_cons, List.length_nil, List.replicate, List.cons_append, List.nil_append, List.append_nil, List.getElem?_cons_zero, List.getElem?_cons_succ, List.set_cons_zero, List.set_cons_succ, Option.some.injEq, V.int.injEq, V.bl.injEq, V.ref.injEq, V.ty.injEq, List.cons.injEq, and_true, true_and, exists_eq_left, exists_eq_left', exists_and_left, exists_and_right, exists_eq, exists_eq', and_assoc, Nat.reduceAdd, Nat.reduceSub, Bool.not_true, Bool.not_false, Bool.false_eq_true, if_true, if_false, reduceIte, Nat.zero_add, decide_true, decide_false, selC, comp_K, tYes, Option.join_some, rIxTH, rIxLH, rLenH, rIsiF, at0, at1, at2, at3, at4, at5, at6, at7, at8, HO.tup.injEq, HO.lst.injEq, reduceCtorEq, false_or, or_false, tyF_non, tyF_bl, tyF_int, tyF_str, exists_const, Int.reduceAdd, Int.reduceMul, Int.reduceSub, gSub, rSetL, tSl, tPart, tNoPart, rSlH, upd_same, upd_upd, rIntB, rListH, tBM, tBM0, rAppend, rClear, tPar, gTupH]
  refine ⟨kvs, hd2, fun bs L lb hb hL => ?_⟩
  have lk : kvs.length = qs.length := by have := congrArg List.length q1; simpa using this
  have hb2 : LR QH H2 (bs.map V.ref) qs := by
    refine ⟨by rw [List.length_map, lb, lk], fun j v hv => ?_⟩
    rw [List.getElem?_map] at hv
    cases eb : bs[j]? with
    | none => rw [eb] at hv; cases hv
    | some b =>
      rw [eb] at hv
      cases hv
      have hj : j < kvs.length := by rw [← lb]; exact (List.getElem?_eq_some_iff.mp eb).1
      have hj' : j < qs.length := by omega
      have ekv := List.getElem?_eq_getElem hj
      have e := congrArg (fun l => l[j]?) q1
      simp only [List.getElem?_map, ekv, List.getElem?_eq_getElem hj', Option.map_some, Option.some.injEq] at e
      have z := hb j b _ eb ekv
      rw [e, kQ_map] at z
      exact ⟨b, qs[j], rfl, List.getElem?_eq_getElem hj', z, mem_pq hp ((q3 _).mp (List.getElem_mem hj'))⟩
  have g3 := same_new hL (HO.lst (bs.map V.ref))
  have hL3 : upd H2 L (HO.lst (bs.map V.ref)) L = some (HO.lst (bs.map V.ref)) := upd_same
  generalize upd H2 L (HO.lst (bs.map V.ref)) = H3 at *
  have lys : ps.length = ys.length := hp.1.symm
  have lbs : (bs.map V.ref).length = qs.length := by rw [List.length_map, lb, lk]
  have g23 := g2.trans g3
  refine ⟨by rw [lbs]; exact few qs q2 (fun p hp => (q3 p).mp hp), lt.same g23, fun c' H4 st4 lt4 hc4 => ?_⟩
  have hd4 : H4 d = some (.dT kvs) := st4 _ _ ((lt.same g23).ne (g3 _ _ hd2) fun _ z => nomatch z) (g3 _ _ hd2)
  have ts4 : TupSame H3 H4 := fun b xs q => st4.tup (lt.same g23) q
  have ky4 := (ky.ts (ts_same g3)).ts ts4
  have hb4 : LR QH H4 (bs.map V.ref) qs := (hb2.same g3).ts qh_ts ts4
  have z0 : Q3 := ⟨0, 0, 0⟩
  refine ⟨fun i ks H' => Same H4 H' ∧ ks.length = i ∧ ∀ j, j < i → ∃ b, ks[j]? = some (.ref b) ∧ H' b = some (.tup [.int (kyQ g (qs.getD j z0)).1, .int (kyQ g (qs.getD j z0)).2]), ⟨⟨.refl _, rfl, fun j hj => by omega⟩, fun i ks H' q => q.1 _ _ hc4, fun i ks H' q => q.2.1, fun i ks H5 v hv q => ?_, fun ks H5 q => ?_⟩⟩
  · obtain ⟨g5, lk5, q⟩ := q
    obtain ⟨p, f, rfl, hf, hpf⟩ := hb4.2 i v hv
    have hpf5 := hpf.same g5
    have hd5 := g5 _ _ hd4
    obtain ⟨b1, e1, h1⟩ := ky4 f ((q3 f).mp (List.mem_of_getElem? hf))
    simp only [tDGet, tSeq, tNext, tRet, tRetN, tIfS, tAsg, gName, tDrop, tVar, tC, tOp, tUn, rI, rI0, rU, rEq, rNe, tTest, tB, tNot, tAnd, tOr, tAndV, tOrV, tNotV, tIf, tCB, tCall, tNil, tCons, tTup, tLst, gTup, gCons, gNil, L2.start, rIsi, rIxT, rIxL, cx_K, tyN_non, tyN_bl, tyN_int, tyN_str, isi_ii, isi_ib, isi_it, isi_il, isi_bi, isi_bb, isi_tt, isi_ni, isi_si, isi_ti, isi_li, isi_di, isi_ll, scal_ii, scal_bb, sz0, sz1, sz2, sz3, sz4, List.map_cons, List.map_nil, List.length_cons, List.length_nil, List.replicate, List.cons_append, List.nil_append, List.append_nil, List.getElem?_cons_zero, List.getElem?_cons_succ, List.set_cons_zero, List.set_cons_succ, Option.some.injEq, V.int.injEq, V.bl.injEq, V.ref.injEq, V.ty.injEq, List.cons.injEq, and_true, true_and, exists_eq_left, exists_eq_left', exists_and_left, exists_and_right, exists_eq, exists_eq', and_assoc, Nat.reduceAdd, Nat.reduceSub, Bool.not_true, Bool.not_false, Bool.false_eq_true, if_true, if_false, reduceIte, Nat.zero_add, decide_true, decide_false, selC, comp_K, tYes, Option.join_some, rIxTH, rIxLH, rLenH, rIsiF, at0, at1, at2, at3, at4, at5, at6, at7, at8, HO.tup.injEq, HO.lst.injEq, reduceCtorEq, false_or, or_false, tyF_non, tyF_bl, tyF_int, tyF_str, exists_const, Int.reduceAdd, Int.reduceMul, Int.reduceSub, gSub, rSetL, tSl, tPart, tNoPart, rSlH, upd_same, upd_upd, rIntB, rListH, tBM, tBM0, rAppend, rClear, tPar, gTupH]
    refine ⟨_, by rw [← e1]; exact .t (k := kQ f) hd5 hpf5.1, g5, by rw [List.length_append, lk5]; rfl, fun j hj => ?_⟩
    by_cases e : j < i
    · obtain ⟨b, hb1, hb2⟩ := q j e
      exact ⟨b, by rw [List.getElem?_append_left (by omega)]; exact hb1, hb2⟩
    · have ej : j = i := by omega
      subst ej
      have e4 : qs.getD j z0 = f := by rw [List.getD_eq_getElem?_getD, hf]; rfl
      rw [e4]
      exact ⟨b1, by rw [List.getElem?_append_right (by omega), lk5, Nat.sub_self]; rfl, g5 _ _ h1⟩
  · obtain ⟨g5, lk5, q⟩ := q
    refine ⟨_, ⟨fun i => kyQ g (qs.getD i z0), fun i hi => q i (by omega), rfl⟩, fun D pp hD or ep => ?_⟩
    rw [lbs] at or ep
    simp only [ltK_lt2] at ep
    have gw : ∀ f, f ∈ qs → f.w ≤ g := fun f hf => gm f ((q3 f).mp hf)
    have pqs : ∀ f, f ∈ qs → PQ 60 f := fun f hf => mem_pq hp ((q3 f).mp hf)
    have nd : (qs.map (kyQ g)).Nodup := by
      refine List.pairwise_map.mpr (List.Pairwise.imp_of_mem (R := (· ≠ ·)) (fun {a b} ha hb ne => ky_apart (pqs a ha) (pqs b hb) (gw a ha) (gw b hb) ne) q2)
    obtain ⟨pm, pw⟩ := sorted_of sto2 (kyQ g) z0 nd or ep
    have g6 := same_new hD (HO.lst (pp.toList.map fun i => (bs.map V.ref).getD i .non))
    refine k D _ (pp.toList.map fun i => qs.getD i z0) _ (g23.free (?_ : H3 D = none)) (fun b o nb e => g6 _ _ (g5 _ _ (st4 _ _ nb (g23 _ _ e)))) ((lt4.same g5).same g6) upd_same ?_ ⟨?_, fun p => ?_, ?_⟩
    · have h3 := g5.free hD
      cases e : H3 D with
      | none => rfl
      | some o =>
        by_cases nb : D = ad 18
        · obtain ⟨tp, e3, _⟩ := lt4
          rw [← nb, h3] at e3
          cases e3
        · rw [st4 _ _ nb e] at h3
          cases h3
    · have hb6 : LR QH (upd H5 D (HO.lst (pp.toList.map fun i => (bs.map V.ref).getD i .non))) (bs.map V.ref) qs := hb4.same (g5.trans g6)
      refine ⟨by rw [List.length_map, List.length_map], fun j v hv => ?_⟩
      rw [List.getElem?_map] at hv
      cases e : pp.toList[j]? with
      | none => rw [e] at hv; cases hv
      | some i =>
        rw [e] at hv
        have ev : (bs.map V.ref).getD i .non = v := by simpa using hv
        have hi : i < qs.length := List.mem_range.mp (or.mem_iff.mp (List.mem_of_getElem? e))
        obtain ⟨b1, f, e1, e2, e3⟩ := hb6.at (j := i) (by omega)
        rw [List.getD_eq_getElem?_getD, e1] at ev
        refine ⟨b1, f, ev.symm, ?_, e3⟩
        rw [List.getElem?_map, e, Option.map_some, List.getD_eq_getElem?_getD, e2]
        rfl
    · exact List.Pairwise.imp_of_mem (fun {a b} ha hb h => ky_back (pqs a (pm.mem_iff.mp ha)) (pqs b (pm.mem_iff.mp hb)) (gw a (pm.mem_iff.mp ha)) (gw b (pm.mem_iff.mp hb)) h) pw
    · rw [pm.mem_iff, q3]
    · rw [pm.length_eq]
      exact q4
theorem while_at {c : TT} {tb : TS} {D : Ends} {σ : St} {H : Hp} (Pv : St → Hp → Prop) (μ : St → Hp → Nat) (h0 : Pv σ H)
    (hs : ∀ σ H, Pv σ H → c σ H fun b H1 => if b = true then ∃ N : St → Hp → Prop, (∀ σ' H', N σ' H' → ∃ m', m' < μ σ H ∧ m' = μ σ' H' ∧ Pv σ' H') ∧ tb { D with nx := N, ct := N, bk := D.nx } σ H1 else D.nx σ H1) : tWhile c tb D σ H := by
  refine ⟨fun m σ H => m = μ σ H ∧ Pv σ H, ⟨_, rfl, h0⟩, ?_⟩
  rintro m σ H ⟨rfl, p⟩
  exact hs σ H p
theorem at_ints {xs : List Int} {j : Int} (h0 : 0 ≤ j) (h1 : j < xs.length) : ∃ x : Int, atI (xs.map V.int) j = some (.int x) := by
  have hk : j.toNat < xs.length := by omega
  refine ⟨xs[j.toNat], ?_⟩
  have z : atI (xs.map V.int) ((j.toNat : Nat) : Int) = some (.int xs[j.toNat]) := atI_nat (by rw [List.getElem?_map, List.getElem?_eq_getElem hk]; rfl)
  rw [show ((j.toNat : Nat) : Int) = j by omega] at z
  exact z
def sp_cellN (K : PySem.W.Frag) : Sp := fun vs H Q _ => ∃ (a : Addr) (ns : List Int) (k : Int), vs = [.ref a, .int k] ∧ SqL K H a (ns.map V.int) ∧ 0 ≤ k ∧ k ≤ 1000 ∧ ∀ v : Int, Q (.int v) H
theorem ok_law_cell (T : Txt K mg ad fd) : FnOk P w K mg base CX0 1 (ad 4) (fd 4) ["_law_script", "_law_k"] (sp_cellN K) := by
  refine T.law_cell.fn.ok sc_law_cell (fun vs H Q E h => ?_) (fun cdv A outer s H vs Q E hr h => ?_)
  · obtain ⟨a, ns, k, rfl, _⟩ := h
    rfl
  obtain ⟨a, ns, k, rfl, hS, k0, k1, q⟩ := h
  have qpss4 := @pss4
  have qps_if := @ps_if
  have qpt_cmpR := @pt_cmpR
  have qpv := @pv
  have qpe_callB := @pe_callB
  have qpa1 := @pa1
  have qpss_one := @pss_one
  have qps_ret := @ps_ret
  have qpe_ix := @pe_ix
  have qpss_nil := @pss_nil
  have qps_set := @ps_set
  have qpe_op := @pe_op
  have qpe_int := @pe_int
  generalize @L2.PE = QE, @L2.PT = QT, @L2.PW = QW, @L2.PA = QA, @L2.PS = QS, @L2.PSs = QSs, @L2.PG = QG, @L2.PGs = QGs, @L2.PI = QI, @L2.PO = QO, @L2.PIf = QIf at qpss4 qps_if qpt_cmpR qpv qpe_callB qpa1 qpss_one qps_ret qpe_ix qpss_nil qps_set qpe_op qpe_int ⊢
  refine ⟨_,
    (qpss4
      (qps_if (qpt_cmpR op_lt (qpv 1) (qpe_callB call_len_seq rfl T.b_len bt_len (qpa1 (qpv 0) ns_Name)) (nomark _)) (qpss_one (qps_ret (qpe_ix ix_list (qpv 0) (qpv 1) (fun _ _ => rfl)))) qpss_nil)
      (qps_set (i := 2) sc_law_cell.nd rfl (Or.inl rfl) (qpe_op op_add (qpe_op op_mul (qpv 1) qpe_int) qpe_int))
      (qps_if (qpt_cmpR op_gt (qpe_callB call_len_seq rfl T.b_len bt_len (qpa1 (qpv 0) ns_Name)) qpe_int (nomark _)) (qpss_one (qps_set (i := 2) sc_law_cell.nd rfl (Or.inl rfl) (qpe_op op_mod (qpe_op op_add (qpe_op op_mul (qpe_ix ix_list (qpv 0) (qpe_op op_modN (qpe_op op_mul (qpv 1) qpe_int) (qpe_callB call_len_seq rfl T.b_len bt_len (qpa1 (qpv 0) ns_Name))) (fun _ _ => rfl)) qpe_int) (qpe_op op_mul (qpv 1) qpe_int)) qpe_int))) qpss_nil)
      (qps_ret (qpe_op op_mod (qpe_op op_mulB (qpv 2) (qpv 2)) qpe_int)))
    , ?_⟩
  clear  qpss4 qps_if qpt_cmpR qpv qpe_callB qpa1 qpss_one qps_ret qpe_ix qpss_nil qps_set qpe_op qpe_int QE QT QW QA QS QSs QG QGs QI QO QIf
  simp only [tSeq, tNext, tRet, tRetN, tIfS, tAsg, gName, tDrop, tVar, tC, tOp, tUn, rI, rI0, rU, rEq, rNe, tTest, tB, tNot, tAnd, tOr, tAndV, tOrV, tNotV, tIf, tCB, tCall, tNil, tCons, tTup, tLst, gTup, gCons, gNil, L2.start, rIsi, rIxT, rIxL, cx_K, tyN_non, tyN_bl, tyN_int, tyN_str, isi_ii, isi_ib, isi_it, isi_il, isi_bi, isi_bb, isi_tt, isi_ni, isi_si, isi_ti, isi_li, isi_di, isi_ll, scal_ii, scal_bb, sz0, sz1, sz2, sz3, sz4, List.map_cons, List.map_nil, List.length_cons, List.length_nil, List.replicate, List.cons_append, List.nil_append, List.append_nil, List.getElem?_cons_zero, List.getElem?_cons_succ, List.set_cons_zero, List.set_cons_succ, Option.some.injEq, V.int.injEq, V.bl.injEq, V.ref.injEq, V.ty.injEq, List.cons.injEq, and_true, true_and, exists_eq_left, exists_eq_left', exists_and_left, exists_and_right, exists_eq, exists_eq', and_assoc, Nat.reduceAdd, Nat.reduceSub, Bool.not_true, Bool.not_false, Bool.false_eq_true, if_true, if_false, reduceIte, Nat.zero_add, decide_true, decide_false]
  have e32 : (2 : Nat) ^ 32 = 4294967296 := rfl
  refine ⟨_, .inl hS, ite2 (fun c => ?_) (fun c => ⟨.inr ⟨by decide, by decide⟩, _, .inl hS, ite2 (fun c2 => ?_) (fun c2 => ?_)⟩)⟩
  · have c := of_decide_eq_true c
    rw [List.length_map] at c
    obtain ⟨x, ax⟩ := at_ints (xs := ns) k0 c
    exact ⟨_, hS, _, ax, q x⟩
  · have c2 := of_decide_eq_true c2
    have l0 : 0 < (ns.map V.int).length := by omega
    have f0 := Int.fmod_nonneg_of_pos (k * 7) (show (0 : Int) < ((ns.map V.int).length : Int) by omega)
    have f1 := Int.fmod_lt_of_pos (k * 7) (show (0 : Int) < ((ns.map V.int).length : Int) by omega)
    refine ⟨.inr ⟨by decide, by decide⟩, _, .inl hS, by omega, _, hS, ?_⟩
    generalize (k * 7).fmod ((ns.map V.int).length : Int) = m at *
    rw [List.length_map] at f1
    obtain ⟨x, ax⟩ := at_ints (xs := ns) f0 f1
    refine ⟨_, ax, x, rfl, .inr ⟨by decide, by decide⟩, .inr ⟨by decide, by decide⟩, by decide, ?_, by decide, q _⟩
    have v0 := Int.emod_nonneg (x * 48271 + k * 7919) (show (2147483647 : Int) ≠ 0 by decide)
    have v1 := Int.emod_lt_of_pos (x * 48271 + k * 7919) (show (0 : Int) < 2147483647 by decide)
    generalize (x * 48271 + k * 7919) % 2147483647 = v at *
    exact cbig (m := 32) (n := 32) (by omega) (by omega)
  · exact ⟨cbig (m := 32) (n := 32) (by omega) (by omega), by decide, q _⟩
def ptQ (x y w : Int) : Q3 := ⟨x.fdiv (G (G x y) w), y.fdiv (G (G x y) w), w.fdiv (G (G x y) w)⟩
def sp_pt : Sp := fun vs H Q _ => ∃ x y w : Int, vs = [.int x, .int y, .int w] ∧ Bd3 60 x y w ∧ 0 < w ∧ ∀ p H', Same H H' → QH H' p (ptQ x y w) → Q (.ref p) H'
theorem ok_law_point (T : Txt K mg ad fd) : FnOk P w K mg base CX0 2 (ad 6) (fd 6) ["_law_east", "_law_north", "_law_share"] sp_pt := by
  refine T.law_point.fn.ok sc_law_point (fun vs H Q E h => ?_) (fun cdv A outer s H vs Q E hr h => ?_)
  · obtain ⟨x, y, w, rfl, _⟩ := h
    rfl
  obtain ⟨x, y, w, rfl, b, hw, k⟩ := h
  have qpss2 := @pss2
  have qps_set := @ps_set
  have qpe_call := @pe_call
  have qpa2 := @pa2
  have qpv := @pv
  have qps_ret := @ps_ret
  have qpe_tup := @pe_tup
  have qpa3 := @pa3
  have qpe_op := @pe_op
  generalize @L2.PE = QE, @L2.PT = QT, @L2.PW = QW, @L2.PA = QA, @L2.PS = QS, @L2.PSs = QSs, @L2.PG = QG, @L2.PGs = QGs, @L2.PI = QI, @L2.PO = QO, @L2.PIf = QIf at qpss2 qps_set qpe_call qpa2 qpv qps_ret qpe_tup qpa3 qpe_op ⊢
  refine ⟨_,
    (qpss2
      (qps_set (i := 3) sc_law_point.nd rfl (Or.inl rfl) (qpe_call (ok_law_divisor T) (hr.mono (by decide)) rfl T.law_divisor.mg T.law_divisor.fn.kp T.law_divisor.bn .nil pass0 (qpa2 (qpe_call (ok_law_divisor T) (hr.mono (by decide)) rfl T.law_divisor.mg T.law_divisor.fn.kp T.law_divisor.bn .nil pass0 (qpa2 (qpv 0) ns_Name (qpv 1) ns_Name)) ns_Call (qpv 2) ns_Name)))
      (qps_ret (qpe_tup (qpa3 (qpe_op op_fdivB (qpv 0) (qpv 3)) ns_BinOp (qpe_op op_fdivB (qpv 1) (qpv 3)) ns_BinOp (qpe_op op_fdivB (qpv 2) (qpv 3)) ns_BinOp))))
    , ?_⟩
  clear  qpss2 qps_set qpe_call qpa2 qpv qps_ret qpe_tup qpa3 qpe_op QE QT QW QA QS QSs QG QGs QI QO QIf
  simp only [sp_divisor, tSeq, tNext, tRet, tRetN, tIfS, tAsg, gName, tDrop, tVar, tC, tOp, tUn, rI, rI0, rU, rEq, rNe, tTest, tB, tNot, tAnd, tOr, tAndV, tOrV, tNotV, tIf, tCB, tCall, tNil, tCons, tTup, tLst, gTup, gCons, gNil, L2.start, rIsi, rIxT, rIxL, cx_K, tyN_non, tyN_bl, tyN_int, tyN_str, isi_ii, isi_ib, isi_it, isi_il, isi_bi, isi_bb, isi_tt, isi_ni, isi_si, isi_ti, isi_li, isi_di, isi_ll, scal_ii, scal_bb, sz0, sz1, sz2, sz3, sz4, List.map_cons, List.map_nil, List.length_cons, List.length_nil, List.replicate, List.cons_append, List.nil_append, List.append_nil, List.getElem?_cons_zero, List.getElem?_cons_succ, List.set_cons_zero, List.set_cons_succ, Option.some.injEq, V.int.injEq, V.bl.injEq, V.ref.injEq, V.ty.injEq, List.cons.injEq, and_true, true_and, exists_eq_left, exists_eq_left', exists_and_left, exists_and_right, exists_eq, exists_eq', and_assoc, Nat.reduceAdd, Nat.reduceSub, Bool.not_true, Bool.not_false, Bool.false_eq_true, if_true, if_false, reduceIte, Nat.zero_add, decide_true, decide_false, selC, comp_K, tYes, Option.join_some, rIxTH, rIxLH, rLenH, rIsiF, at0, at1, at2, at3, at4, at5, at6, at7, at8, HO.tup.injEq, HO.lst.injEq, reduceCtorEq, false_or, or_false, tyF_non, tyF_bl, tyF_int, tyF_str, exists_const, Int.reduceAdd, Int.reduceMul, Int.reduceSub, gSub, rSetL, tSl, tPart, tNoPart, rSlH, upd_same, upd_upd, rIntB, rListH, tBM, tBM0, rAppend, rClear, tPar, gTupH]
  have lt := lt_mono (g3_lt (x := x) (y := y) hw b.2.2) (show 60 ≤ 8000 by decide)
  exact ⟨cdivb (g3_ne hw) lt, cdivb (g3_ne hw) lt, cdivb (g3_ne hw) lt, fun p hp => k p _ (same_new hp _) ⟨upd_same, g3_pt hw b.1 b.2.1 b.2.2⟩⟩
def P2H (H : Hp) (p : Addr) (a : Int × Int) : Prop := H p = some (.tup [.int a.1, .int a.2])
theorem p2_ts : ∀ (H H' : Hp) (p : Addr) (a : Int × Int), TupSame H H' → P2H H p a → P2H H' p a := fun _ _ _ _ g h => g _ _ h
def Bx (a : Int × Int) : Prop := 0 ≤ a.1 ∧ a.1 ≤ 8 ∧ 0 ≤ a.2 ∧ a.2 ≤ 6
def C3H (H : Hp) (p : Addr) (c : Int × Int × Int) : Prop := H p = some (.tup [.int c.1, .int c.2.1, .int c.2.2]) ∧ 0 ≤ c.1 ∧ c.1 ≤ 3 ∧ 0 ≤ c.2.1 ∧ c.2.1 ≤ 2 ∧ 0 ≤ c.2.2 ∧ c.2.2 ≤ 3
theorem c3_ts : ∀ (H H' : Hp) (p : Addr) (c : Int × Int × Int), TupSame H H' → C3H H p c → C3H H' p c := fun _ _ _ _ g h => ⟨g _ _ h.1, h.2⟩
def sp_cellsN (K : PySem.W.Frag) : Sp := fun vs H Q _ => ∃ (a : Addr) (ns : List Int) (w h : Int), vs = [.ref a, .int w, .int h] ∧ SqL K H a (ns.map V.int) ∧ 1 ≤ w ∧ w ≤ 4 ∧ 1 ≤ h ∧ h ≤ 3 ∧ ∀ D zs cs H', H D = none → Same H H' → H' D = some (.lst zs) → zs.length ≤ 48 → LR C3H H' zs cs → Q (.ref D) H'
theorem ok_law_cells (T : Txt K mg ad fd) : FnOk P w K mg base CX0 2 (ad 7) (fd 7) ["_law_script", "_law_wide", "_law_high"] (sp_cellsN K) := by
  refine T.law_cells.fn.ok sc_law_cells (fun vs H Q E h => ?_) (fun cdv A outer s H vs Q E hr h => ?_)
  · obtain ⟨a, ns, w, h, rfl, _⟩ := h
    rfl
  obtain ⟨a, ns, wd, hg, rfl, hS, w1, w4, h1, h3, k⟩ := h
  have qpss3 := @pss3
  have qps_set := @ps_set
  have qpe_lst := @pe_lst
  have qpa_nil := @pa_nil
  have qps_for := @ps_for
  have qpi_range1 := @pi_range1
  have qpa1 := @pa1
  have qpe_op := @pe_op
  have qpe_int := @pe_int
  have qpv := @pv
  have qpg_name := @pg_name
  have qpss_one := @pss_one
  have qps_if := @ps_if
  have qpt_cmpR := @pt_cmpR
  have qpe_call := @pe_call
  have qpa2 := @pa2
  have qps_expr := @ps_expr
  have qpe_bm := @pe_bm
  have qpe_tup := @pe_tup
  have qpa3 := @pa3
  have qpss_nil := @pss_nil
  have qps_ret := @ps_ret
  generalize @L2.PE = QE, @L2.PT = QT, @L2.PW = QW, @L2.PA = QA, @L2.PS = QS, @L2.PSs = QSs, @L2.PG = QG, @L2.PGs = QGs, @L2.PI = QI, @L2.PO = QO, @L2.PIf = QIf at qpss3 qps_set qpe_lst qpa_nil qps_for qpi_range1 qpa1 qpe_op qpe_int qpv qpg_name qpss_one qps_if qpt_cmpR qpe_call qpa2 qps_expr qpe_bm qpe_tup qpa3 qpss_nil qps_ret ⊢
  refine ⟨_,
    (qpss3
      (qps_set (i := 3) sc_law_cells.nd rfl (Or.inl rfl) (qpe_lst qpa_nil))
      (qps_for PassesOwn.never rfl (qpi_range1 rfl T.b_range (qpa1 (qpe_op op_mulB (qpe_op op_mul qpe_int (qpv 1)) (qpv 2)) ns_BinOp)) (qpg_name (i := 4) sc_law_cells.nd rfl (Or.inl rfl)) (qpss_one (qps_if (qpt_cmpR op_gt (qpe_op op_mod (qpe_call (ok_law_cell T) (hr.mono (by decide)) rfl T.law_cell.mg T.law_cell.fn.kp T.law_cell.bn .nil pass0 (qpa2 (qpv 0) ns_Name (qpe_op op_add qpe_int (qpv 4)) ns_BinOp)) qpe_int) qpe_int (nomark _)) (qpss_one (qps_expr (qpe_bm PySem.F.plainAttrs_list PySem.F.slot_list_append PySem.F.type_list_append mt_append (qpv 3) (qpa1 (qpe_tup (qpa3 (qpe_op op_modN (qpe_op op_fdiv (qpv 4) qpe_int) (qpv 1)) ns_BinOp (qpe_op op_fdivB (qpe_op op_fdiv (qpv 4) qpe_int) (qpv 1)) ns_BinOp (qpe_op op_mod (qpv 4) qpe_int) ns_BinOp)) ns_Tuple)))) qpss_nil)))
      (qps_ret (qpv 3)))
    , ?_⟩
  clear  qpss3 qps_set qpe_lst qpa_nil qps_for qpi_range1 qpa1 qpe_op qpe_int qpv qpg_name qpss_one qps_if qpt_cmpR qpe_call qpa2 qps_expr qpe_bm qpe_tup qpa3 qpss_nil qps_ret QE QT QW QA QS QSs QG QGs QI QO QIf
  simp only [tSeq, tNext, tRet, tRetN, tIfS, tAsg, gName, tDrop, tVar, tC, tOp, tUn, rI, rI0, rU, rEq, rNe, tTest, tB, tNot, tAnd, tOr, tAndV, tOrV, tNotV, tIf, tCB, tCall, tNil, tCons, tTup, tLst, gTup, gCons, gNil, L2.start, rIsi, rIxT, rIxL, cx_K, tyN_non, tyN_bl, tyN_int, tyN_str, isi_ii, isi_ib, isi_it, isi_il, isi_bi, isi_bb, isi_tt, isi_ni, isi_si, isi_ti, isi_li, isi_di, isi_ll, scal_ii, scal_bb, sz0, sz1, sz2, sz3, sz4, List.map_cons, List.map_nil, List.length_cons, List.length_nil, List.replicate, List.cons_append, List.nil_append, List.append_nil, List.getElem?_cons_zero, List.getElem?_cons_succ, List.set_cons_zero, List.set_cons_succ, Option.some.injEq, V.int.injEq, V.bl.injEq, V.ref.injEq, V.ty.injEq, List.cons.injEq, and_true, true_and, exists_eq_left, exists_eq_left', exists_and_left, exists_and_right, exists_eq, exists_eq', and_assoc, Nat.reduceAdd, Nat.reduceSub, Bool.not_true, Bool.not_false, Bool.false_eq_true, if_true, if_false, reduceIte, Nat.zero_add, decide_true, decide_false, selC, comp_K, tYes, Option.join_some, rIxTH, rIxLH, rLenH, rIsiF, at0, at1, at2, at3, at4, at5, at6, at7, at8, HO.tup.injEq, HO.lst.injEq, reduceCtorEq, false_or, or_false, tyF_non, tyF_bl, tyF_int, tyF_str, exists_const, Int.reduceAdd, Int.reduceMul, Int.reduceSub, gSub, rSetL, tSl, tPart, tNoPart, rSlH, upd_same, upd_upd, rIntB, rListH, tBM, tBM0, rAppend, rClear, tPar, gTupH]
  intro D hD
  have gD := same_new hD (HO.lst [])
  refine tFor_mk ?_
  simp only [iRng1, tSeq, tNext, tRet, tRetN, tIfS, tAsg, gName, tDrop, tVar, tC, tOp, tUn, rI, rI0, rU, rEq, rNe, tTest, tB, tNot, tAnd, tOr, tAndV, tOrV, tNotV, tIf, tCB, tCall, tNil, tCons, tTup, tLst, gTup, gCons, gNil, L2.start, rIsi, rIxT, rIxL, cx_K, tyN_non, tyN_bl, tyN_int, tyN_str, isi_ii, isi_ib, isi_it, isi_il, isi_bi, isi_bb, isi_tt, isi_ni, isi_si, isi_ti, isi_li, isi_di, isi_ll, scal_ii, scal_bb, sz0, sz1, sz2, sz3, sz4, List.map_cons, List.map_nil, List.length_cons, List.length_nil, List.replicate, List.cons_append, List.nil_append, List.append_nil, List.getElem?_cons_zero, List.getElem?_cons_succ, List.set_cons_zero, List.set_cons_succ, Option.some.injEq, V.int.injEq, V.bl.injEq, V.ref.injEq, V.ty.injEq, List.cons.injEq, and_true, true_and, exists_eq_left, exists_eq_left', exists_and_left, exists_and_right, exists_eq, exists_eq', and_assoc, Nat.reduceAdd, Nat.reduceSub, Bool.not_true, Bool.not_false, Bool.false_eq_true, if_true, if_false, reduceIte, Nat.zero_add, decide_true, decide_false, selC, comp_K, tYes, Option.join_some, rIxTH, rIxLH, rLenH, rIsiF, at0, at1, at2, at3, at4, at5, at6, at7, at8, HO.tup.injEq, HO.lst.injEq, reduceCtorEq, false_or, or_false, tyF_non, tyF_bl, tyF_int, tyF_str, exists_const, Int.reduceAdd, Int.reduceMul, Int.reduceSub, gSub, rSetL, tSl, tPart, tNoPart, rSlH, upd_same, upd_upd, rIntB, rListH, tBM, tBM0, rAppend, rClear, tPar, gTupH]
  have e8 : (2 : Nat) ^ 8 = 256 := rfl
  have ub : 4 * wd * hg ≤ 48 := by
    have : 4 * wd * hg ≤ 16 * 3 := Int.mul_le_mul (by omega) h3 (by omega) (by omega)
    omega
  have lb : 0 ≤ 4 * wd * hg := Int.mul_nonneg (by omega) (by omega)
  refine ⟨.inl ⟨by decide, by decide⟩, cbig (m := 8) (n := 8) (by omega) (by omega), by omega, by omega, for_range (fun i σ H' => Same H H' ∧ ∃ (zs : List V) (cs : List (Int × Int × Int)) (o : Option V), σ = [some (V.ref a), some (V.int wd), some (V.int hg), some (V.ref D), o] ∧ H' D = some (.lst zs) ∧ zs.length ≤ i ∧ LR C3H H' zs cs) ⟨gD, [], [], none, rfl, upd_same, Nat.le_refl _, .nil⟩ ?_ ?_⟩
  · rintro i σ H2 hi ⟨g2, zs, cs, o, rfl, hD2, hn, hz⟩
    have hi48 : (i : Int) < 4 * wd * hg := by omega
    simp only [tSeq, tNext, tRet, tRetN, tIfS, tAsg, gName, tDrop, tVar, tC, tOp, tUn, rI, rI0, rU, rEq, rNe, tTest, tB, tNot, tAnd, tOr, tAndV, tOrV, tNotV, tIf, tCB, tCall, tNil, tCons, tTup, tLst, gTup, gCons, gNil, L2.start, rIsi, rIxT, rIxL, cx_K, tyN_non, tyN_bl, tyN_int, tyN_str, isi_ii, isi_ib, isi_it, isi_il, isi_bi, isi_bb, isi_tt, isi_ni, isi_si, isi_ti, isi_li, isi_di, isi_ll, scal_ii, scal_bb, sz0, sz1, sz2, sz3, sz4, List.map_cons, List.map_nil, List.length_cons, List.length_nil, List.replicate, List.cons_append, List.nil_append, List.append_nil, List.getElem?_cons_zero, List.getElem?_cons_succ, List.set_cons_zero, List.set_cons_succ, Option.some.injEq, V.int.injEq, V.bl.injEq, V.ref.injEq, V.ty.injEq, List.cons.injEq, and_true, true_and, exists_eq_left, exists_eq_left', exists_and_left, exists_and_right, exists_eq, exists_eq', and_assoc, Nat.reduceAdd, Nat.reduceSub, Bool.not_true, Bool.not_false, Bool.false_eq_true, if_true, if_false, reduceIte, Nat.zero_add, decide_true, decide_false, selC, comp_K, tYes, Option.join_some, rIxTH, rIxLH, rLenH, rIsiF, at0, at1, at2, at3, at4, at5, at6, at7, at8, HO.tup.injEq, HO.lst.injEq, reduceCtorEq, false_or, or_false, tyF_non, tyF_bl, tyF_int, tyF_str, exists_const, Int.reduceAdd, Int.reduceMul, Int.reduceSub, gSub, rSetL, tSl, tPart, tNoPart, rSlH, upd_same, upd_upd, rIntB, rListH, tBM, tBM0, rAppend, rClear, tPar, gTupH, Int.zero_add]
    refine ⟨a, ns, _, rfl, g2.seq hS, by omega, by omega, fun v => ⟨_, rfl, by decide, ite2 (fun _ => ?_) (fun _ => ?_)⟩⟩
    · have wn : wd ≠ 0 := by omega
      refine ⟨tyV_of hD2, ⟨by decide, by decide⟩, wn, ⟨by decide, by decide⟩, cdivb wn (n := 8) (by omega), by decide, fun p hp => ?_⟩
      rw [Int.fmod_eq_emod_of_nonneg _ (by omega), Int.fdiv_eq_ediv_of_nonneg _ (by omega)]
      have j0 : 0 ≤ (i : Int) / 4 := by omega
      have j1 : (i : Int) / 4 < wd * hg := by
        have : 4 * wd * hg = 4 * (wd * hg) := by rw [Int.mul_assoc]
        omega
      have q0 : 0 ≤ (i : Int) % 4 ∧ (i : Int) % 4 ≤ 3 := by omega
      generalize (i : Int) / 4 = j at *
      generalize (i : Int) % 4 = qq at *
      have m0 := Int.emod_nonneg j wn
      have m1 := Int.emod_lt_of_pos j (show 0 < wd by omega)
      have d0 : 0 ≤ j / wd := Int.ediv_nonneg j0 (by omega)
      have d1 : j / wd < hg := Int.ediv_lt_of_lt_mul (by omega) (by rw [Int.mul_comm]; exact j1)
      generalize j % wd = cx at *
      generalize j / wd = cy at *
      have g3 := same_new hp (HO.tup [V.int cx, V.int cy, V.int qq])
      have h3' : upd H2 p (HO.tup [V.int cx, V.int cy, V.int qq]) p = some (HO.tup [V.int cx, V.int cy, V.int qq]) := upd_same
      generalize upd H2 p (HO.tup [V.int cx, V.int cy, V.int qq]) = H3 at *
      have hD3 := g3 _ _ hD2
      exact ⟨zs, hD3, small1000 (by omega), same_put (g2.trans g3) hD, by rw [List.length_append, List.length_singleton]; omega, _, ((hz.ts c3_ts (ts_same g3)).snoc (a := (cx, cy, qq)) ⟨h3', by show 0 ≤ cx; omega, by show cx ≤ 3; omega, by show 0 ≤ cy; omega, by show cy ≤ 2; omega, by show 0 ≤ qq; omega, by show qq ≤ 3; omega⟩).ts c3_ts (ts_put hD3)⟩
    · exact ⟨g2, zs, hD2, by omega, cs, hz⟩
  · rintro σ H2 ⟨g2, zs, cs, o, rfl, hD2, hn, hz⟩
    simp only [tSeq, tNext, tRet, tRetN, tIfS, tAsg, gName, tDrop, tVar, tC, tOp, tUn, rI, rI0, rU, rEq, rNe, tTest, tB, tNot, tAnd, tOr, tAndV, tOrV, tNotV, tIf, tCB, tCall, tNil, tCons, tTup, tLst, gTup, gCons, gNil, L2.start, rIsi, rIxT, rIxL, cx_K, tyN_non, tyN_bl, tyN_int, tyN_str, isi_ii, isi_ib, isi_it, isi_il, isi_bi, isi_bb, isi_tt, isi_ni, isi_si, isi_ti, isi_li, isi_di, isi_ll, scal_ii, scal_bb, sz0, sz1, sz2, sz3, sz4, List.map_cons, List.map_nil, List.length_cons, List.length_nil, List.replicate, List.cons_append, List.nil_append, List.append_nil, List.getElem?_cons_zero, List.getElem?_cons_succ, List.set_cons_zero, List.set_cons_succ, Option.some.injEq, V.int.injEq, V.bl.injEq, V.ref.injEq, V.ty.injEq, List.cons.injEq, and_true, true_and, exists_eq_left, exists_eq_left', exists_and_left, exists_and_right, exists_eq, exists_eq', and_assoc, Nat.reduceAdd, Nat.reduceSub, Bool.not_true, Bool.not_false, Bool.false_eq_true, if_true, if_false, reduceIte, Nat.zero_add, decide_true, decide_false, selC, comp_K, tYes, Option.join_some, rIxTH, rIxLH, rLenH, rIsiF, at0, at1, at2, at3, at4, at5, at6, at7, at8, HO.tup.injEq, HO.lst.injEq, reduceCtorEq, false_or, or_false, tyF_non, tyF_bl, tyF_int, tyF_str, exists_const, Int.reduceAdd, Int.reduceMul, Int.reduceSub, gSub, rSetL, tSl, tPart, tNoPart, rSlH, upd_same, upd_upd, rIntB, rListH, tBM, tBM0, rAppend, rClear, tPar, gTupH]
    exact k D zs cs H2 hD g2 hD2 (by omega) hz
def sp_ends3 : Sp := fun vs H Q _ => ∃ (p : Addr) (c : Int × Int × Int), vs = [.ref p] ∧ C3H H p c ∧ ∀ D e0 e1 e2 a0 a1 a2 H', H D = none → Same H H' → H' D = some (.lst [.ref e0, .ref e1, .ref e2]) → P2H H' e0 a0 → P2H H' e1 a1 → P2H H' e2 a2 → Bx a0 → Bx a1 → Bx a2 → a0 ≠ a1 → a1 ≠ a2 → a2 ≠ a0 → Q (.ref D) H'
theorem ok_law_ends (T : Txt K mg ad fd) : FnOk P w K mg base CX0 1 (ad 8) (fd 8) ["_law_cell_here"] sp_ends3 := by
  refine T.law_ends.fn.ok sc_law_ends (fun vs H Q E h => ?_) (fun cdv A outer s H vs Q E hr h => ?_)
  · obtain ⟨p, c, rfl, _⟩ := h
    rfl
  obtain ⟨p, ⟨cx, cy, qq⟩, rfl, ⟨hp, x0, x1, y0, y1, q0, q1⟩, k⟩ := h
  dsimp only at hp x0 x1 y0 y1 q0 q1
  have qpss4 := @pss4
  have qps_set := @ps_set
  have qpe_op := @pe_op
  have qpe_int := @pe_int
  have qpe_ix := @pe_ix
  have qpv := @pv
  have qpe_lst := @pe_lst
  have qpa5 := @pa5
  have qpe_tup := @pe_tup
  have qpa2 := @pa2
  have qps_ret := @ps_ret
  have qpa3 := @pa3
  generalize @L2.PE = QE, @L2.PT = QT, @L2.PW = QW, @L2.PA = QA, @L2.PS = QS, @L2.PSs = QSs, @L2.PG = QG, @L2.PGs = QGs, @L2.PI = QI, @L2.PO = QO, @L2.PIf = QIf at qpss4 qps_set qpe_op qpe_int qpe_ix qpv qpe_lst qpa5 qpe_tup qpa2 qps_ret qpa3 ⊢
  refine ⟨_,
    (qpss4
      (qps_set (i := 1) sc_law_ends.nd rfl (Or.inl rfl) (qpe_op op_mul qpe_int (qpe_ix ix_tupH (qpv 0) qpe_int (fun _ _ => rfl))))
      (qps_set (i := 2) sc_law_ends.nd rfl (Or.inl rfl) (qpe_op op_mul qpe_int (qpe_ix ix_tupH (qpv 0) qpe_int (fun _ _ => rfl))))
      (qps_set (i := 3) sc_law_ends.nd rfl (Or.inl rfl) (qpe_lst (qpa5 (qpe_tup (qpa2 (qpv 1) ns_Name (qpv 2) ns_Name)) ns_Tuple (qpe_tup (qpa2 (qpe_op op_add (qpv 1) qpe_int) ns_BinOp (qpv 2) ns_Name)) ns_Tuple (qpe_tup (qpa2 (qpe_op op_add (qpv 1) qpe_int) ns_BinOp (qpe_op op_add (qpv 2) qpe_int) ns_BinOp)) ns_Tuple (qpe_tup (qpa2 (qpv 1) ns_Name (qpe_op op_add (qpv 2) qpe_int) ns_BinOp)) ns_Tuple (qpe_tup (qpa2 (qpv 1) ns_Name (qpv 2) ns_Name)) ns_Tuple)))
      (qps_ret (qpe_lst (qpa3 (qpe_ix ix_listH (qpv 3) (qpe_ix ix_tupH (qpv 0) qpe_int (fun _ _ => rfl)) (fun _ _ => rfl)) ns_Subscript (qpe_ix ix_listH (qpv 3) (qpe_op op_add (qpe_ix ix_tupH (qpv 0) qpe_int (fun _ _ => rfl)) qpe_int) (fun _ _ => rfl)) ns_Subscript (qpe_tup (qpa2 (qpe_op op_add (qpv 1) qpe_int) ns_BinOp (qpe_op op_add (qpv 2) qpe_int) ns_BinOp)) ns_Tuple))))
    , ?_⟩
  clear  qpss4 qps_set qpe_op qpe_int qpe_ix qpv qpe_lst qpa5 qpe_tup qpa2 qps_ret qpa3 QE QT QW QA QS QSs QG QGs QI QO QIf
  simp only [tSeq, tNext, tRet, tRetN, tIfS, tAsg, gName, tDrop, tVar, tC, tOp, tUn, rI, rI0, rU, rEq, rNe, tTest, tB, tNot, tAnd, tOr, tAndV, tOrV, tNotV, tIf, tCB, tCall, tNil, tCons, tTup, tLst, gTup, gCons, gNil, L2.start, rIsi, rIxT, rIxL, cx_K, tyN_non, tyN_bl, tyN_int, tyN_str, isi_ii, isi_ib, isi_it, isi_il, isi_bi, isi_bb, isi_tt, isi_ni, isi_si, isi_ti, isi_li, isi_di, isi_ll, scal_ii, scal_bb, sz0, sz1, sz2, sz3, sz4, List.map_cons, List.map_nil, List.length_cons, List.length_nil, List.replicate, List.cons_append, List.nil_append, List.append_nil, List.getElem?_cons_zero, List.getElem?_cons_succ, List.set_cons_zero, List.set_cons_succ, Option.some.injEq, V.int.injEq, V.bl.injEq, V.ref.injEq, V.ty.injEq, List.cons.injEq, and_true, true_and, exists_eq_left, exists_eq_left', exists_and_left, exists_and_right, exists_eq, exists_eq', and_assoc, Nat.reduceAdd, Nat.reduceSub, Bool.not_true, Bool.not_false, Bool.false_eq_true, if_true, if_false, reduceIte, Nat.zero_add, decide_true, decide_false, selC, comp_K, tYes, Option.join_some, rIxTH, rIxLH, rLenH, rIsiF, at0, at1, at2, at3, at4, at5, at6, at7, at8, HO.tup.injEq, HO.lst.injEq, reduceCtorEq, false_or, or_false, tyF_non, tyF_bl, tyF_int, tyF_str, exists_const, Int.reduceAdd, Int.reduceMul, Int.reduceSub, gSub, rSetL, tSl, tPart, tNoPart, rSlH, upd_same, upd_upd, rIntB, rListH, tBM, tBM0, rAppend, rClear, tPar, gTupH, hp]
  refine ⟨.inl ⟨by decide, by decide⟩, .inl ⟨by decide, by decide⟩, ?_⟩
  intro p1 n1
  have g1 := same_new n1 (HO.tup [V.int (2 * cx), V.int (2 * cy)])
  have h1 : upd H p1 (HO.tup [V.int (2 * cx), V.int (2 * cy)]) p1 = some (HO.tup [V.int (2 * cx), V.int (2 * cy)]) := upd_same
  generalize upd H p1 (HO.tup [V.int (2 * cx), V.int (2 * cy)]) = K1 at *
  intro p2 n2
  have g2 := same_new n2 (HO.tup [V.int (2 * cx + 2), V.int (2 * cy)])
  have h2 : upd K1 p2 (HO.tup [V.int (2 * cx + 2), V.int (2 * cy)]) p2 = some (HO.tup [V.int (2 * cx + 2), V.int (2 * cy)]) := upd_same
  generalize upd K1 p2 (HO.tup [V.int (2 * cx + 2), V.int (2 * cy)]) = K2 at *
  intro p3 n3
  have g3 := same_new n3 (HO.tup [V.int (2 * cx + 2), V.int (2 * cy + 2)])
  have h3 : upd K2 p3 (HO.tup [V.int (2 * cx + 2), V.int (2 * cy + 2)]) p3 = some (HO.tup [V.int (2 * cx + 2), V.int (2 * cy + 2)]) := upd_same
  generalize upd K2 p3 (HO.tup [V.int (2 * cx + 2), V.int (2 * cy + 2)]) = K3 at *
  intro p4 n4
  have g4 := same_new n4 (HO.tup [V.int (2 * cx), V.int (2 * cy + 2)])
  have h4 : upd K3 p4 (HO.tup [V.int (2 * cx), V.int (2 * cy + 2)]) p4 = some (HO.tup [V.int (2 * cx), V.int (2 * cy + 2)]) := upd_same
  generalize upd K3 p4 (HO.tup [V.int (2 * cx), V.int (2 * cy + 2)]) = K4 at *
  intro p5 n5
  have g5 := same_new n5 (HO.tup [V.int (2 * cx), V.int (2 * cy)])
  have h5 : upd K4 p5 (HO.tup [V.int (2 * cx), V.int (2 * cy)]) p5 = some (HO.tup [V.int (2 * cx), V.int (2 * cy)]) := upd_same
  generalize upd K4 p5 (HO.tup [V.int (2 * cx), V.int (2 * cy)]) = K5 at *
  refine ⟨by decide, fun L nL => ?_⟩
  have g6 := same_new nL (HO.lst [V.ref p1, V.ref p2, V.ref p3, V.ref p4, V.ref p5])
  have h6 : upd K5 L (HO.lst [V.ref p1, V.ref p2, V.ref p3, V.ref p4, V.ref p5]) L = some (HO.lst [V.ref p1, V.ref p2, V.ref p3, V.ref p4, V.ref p5]) := upd_same
  generalize upd K5 L (HO.lst [V.ref p1, V.ref p2, V.ref p3, V.ref p4, V.ref p5]) = K6 at *
  have g46 := g5.trans g6
  have g36 := g4.trans g46
  have g26 := g3.trans g36
  have g16 := g2.trans g26
  have g06 := g1.trans g16
  have hp6 := g06 _ _ hp
  obtain ⟨A0, A1, a0, a1, e0, e1, hA0, hA1, b0, b1, n01, nc0, nc1⟩ : ∃ (A0 A1 : Addr) (a0 a1 : Int × Int), atI [V.ref p1, V.ref p2, V.ref p3, V.ref p4, V.ref p5] qq = some (.ref A0) ∧ atI [V.ref p1, V.ref p2, V.ref p3, V.ref p4, V.ref p5] (qq + 1) = some (.ref A1) ∧ P2H K6 A0 a0 ∧ P2H K6 A1 a1 ∧ Bx a0 ∧ Bx a1 ∧ a0 ≠ a1 ∧ a0.1 ≠ 2 * cx + 1 ∧ a1.1 ≠ 2 * cx + 1 := by
    have t1 : P2H K6 p1 (2 * cx, 2 * cy) := g16 _ _ h1
    have t2 : P2H K6 p2 (2 * cx + 2, 2 * cy) := g26 _ _ h2
    have t3 : P2H K6 p3 (2 * cx + 2, 2 * cy + 2) := g36 _ _ h3
    have t4 : P2H K6 p4 (2 * cx, 2 * cy + 2) := g46 _ _ h4
    have t5 : P2H K6 p5 (2 * cx, 2 * cy) := g6 _ _ h5
    have ne1 : ∀ {a b c d : Int}, a ≠ c → ((a, b) : Int × Int) ≠ (c, d) := fun h z => h (Prod.mk.inj z).1
    have ne2 : ∀ {a b c d : Int}, b ≠ d → ((a, b) : Int × Int) ≠ (c, d) := fun h z => h (Prod.mk.inj z).2
    have bx : ∀ {x y : Int}, 0 ≤ x → x ≤ 8 → 0 ≤ y → y ≤ 6 → Bx (x, y) := fun a b c d => ⟨a, b, c, d⟩
    rcases (by omega : qq = 0 ∨ qq = 1 ∨ qq = 2 ∨ qq = 3) with e | e | e | e <;> subst e
    · exact ⟨p1, p2, _, _, at0, at1, t1, t2, bx (by omega) (by omega) (by omega) (by omega), bx (by omega) (by omega) (by omega) (by omega), ne1 (by omega), by show 2 * cx ≠ _; omega, by show 2 * cx + 2 ≠ _; omega⟩
    · exact ⟨p2, p3, _, _, at1, at2, t2, t3, bx (by omega) (by omega) (by omega) (by omega), bx (by omega) (by omega) (by omega) (by omega), ne2 (by omega), by show 2 * cx + 2 ≠ _; omega, by show 2 * cx + 2 ≠ _; omega⟩
    · exact ⟨p3, p4, _, _, at2, at3, t3, t4, bx (by omega) (by omega) (by omega) (by omega), bx (by omega) (by omega) (by omega) (by omega), ne1 (by omega), by show 2 * cx + 2 ≠ _; omega, by show 2 * cx ≠ _; omega⟩
    · exact ⟨p4, p5, _, _, at3, at4, t4, t5, bx (by omega) (by omega) (by omega) (by omega), bx (by omega) (by omega) (by omega) (by omega), ne2 (by omega), by show 2 * cx ≠ _; omega, by show 2 * cx ≠ _; omega⟩
  refine ⟨_, hp6, _, at2, _, _, rfl, rfl, _, e0, _, hp6, _, at2, _, rfl, _, e1, fun c nc => ?_⟩
  have g7 := same_new nc (HO.tup [V.int (2 * cx + 1), V.int (2 * cy + 1)])
  have h7 : upd K6 c (HO.tup [V.int (2 * cx + 1), V.int (2 * cy + 1)]) c = some (HO.tup [V.int (2 * cx + 1), V.int (2 * cy + 1)]) := upd_same
  generalize upd K6 c (HO.tup [V.int (2 * cx + 1), V.int (2 * cy + 1)]) = K7 at *
  intro D hD
  have g8 := same_new hD (HO.lst [V.ref A0, V.ref A1, V.ref c])
  have g08 := g06.trans (g7.trans g8)
  exact k D A0 A1 c a0 a1 (2 * cx + 1, 2 * cy + 1) _ ((g06.trans g7).free hD) g08 upd_same (p2_ts _ _ _ _ (ts_same (g7.trans g8)) hA0) (p2_ts _ _ _ _ (ts_same (g7.trans g8)) hA1) (g8 _ _ h7) b0 b1 ⟨by show 0 ≤ 2 * cx + 1; omega, by show 2 * cx + 1 ≤ 8; omega, by show 0 ≤ 2 * cy + 1; omega, by show 2 * cy + 1 ≤ 6; omega⟩ n01 (fun z => nc1 (by rw [z])) (fun z => nc0 (by rw [← z]))
abbrev E2 := (Int × Int) × (Int × Int)
def kP (a : Int × Int) : List Key := [.inl a.1, .inl a.2]
theorem kP_inj {a b : Int × Int} (h : kP a = kP b) : a = b := by
  obtain ⟨x, y⟩ := a
  obtain ⟨x', y'⟩ := b
  unfold kP at h
  cases h
  rfl
def EdH (H : Hp) (p : Addr) (e : E2) : Prop := (∃ c d, H p = some (.tup [.ref c, .ref d]) ∧ P2H H c e.1 ∧ P2H H d e.2) ∧ Bx e.1 ∧ Bx e.2 ∧ e.1 ≠ e.2
theorem ed_ts : ∀ (H H' : Hp) (p : Addr) (e : E2), TupSame H H' → EdH H p e → EdH H' p e := fun _ _ _ _ g ⟨⟨c, d, h1, h2, h3⟩, b⟩ => ⟨⟨c, d, g _ _ h1, g _ _ h2, g _ _ h3⟩, b⟩
theorem EdH.nk {H : Hp} {p : Addr} {e : E2} (h : EdH H p e) : NK H p [kP e.1, kP e.2] := by
  obtain ⟨⟨c, d, h1, h2, h3⟩, _⟩ := h
  exact NK.two h1 h2 h3
def EdK (H : Hp) (kvs : List N3) : Prop := ∀ p, p ∈ kvs → ∃ e, p.1 = [kP e.1, kP e.2] ∧ EdH H p.2.1 e
theorem EdK.kn {H : Hp} {kvs : List N3} (h : EdK H kvs) : KN H kvs := fun p hp => by
  obtain ⟨e, e1, e2⟩ := h p hp
  rw [e1]
  exact e2.nk
theorem EdK.ts {H H' : Hp} {kvs : List N3} (h : EdK H kvs) (g : TupSame H H') : EdK H' kvs := fun p hp => by
  obtain ⟨e, e1, e2⟩ := h p hp
  exact ⟨e, e1, ed_ts _ _ _ _ g e2⟩
theorem EdK.put {H : Hp} {kvs : List N3} {b : Addr} {e : E2} {v : V} (h : EdK H kvs) (hb : EdH H b e) : EdK H (putN kvs [kP e.1, kP e.2] b v) := by
  unfold putN
  split
  · intro p hp
    obtain ⟨q, hq, z⟩ := List.mem_map.mp hp
    obtain ⟨f, f1, f2⟩ := h q hq
    rw [← z]
    split
    · exact ⟨f, f1, f2⟩
    · exact ⟨f, f1, f2⟩
  · intro p hp
    rcases List.mem_append.mp hp with hp | hp
    · exact h p hp
    · rw [List.mem_singleton.mp hp]
      exact ⟨e, rfl, hb⟩
theorem ts_putN {P : Program} {w : World} {H : Hp} {D : Addr} {kvs : List N3} {o : HO} (h : H D = some (nD P w D kvs)) : TupSame H (upd H D o) := fun b xs q => by
  rw [upd_ne (fun z => by rw [z, h] at q; cases q)]
  exact q
def sp_edges : Sp := fun vs H Q _ => ∃ (l : Addr) (zs : List V) (cs : List (Int × Int × Int)), vs = [.ref l] ∧ H l = some (.lst zs) ∧ zs.length ≤ 48 ∧ LR C3H H zs cs ∧ ∀ D ys es H', H D = none → Same H H' → H' D = some (.lst ys) → ys.length ≤ 144 → LR EdH H' ys es → Q (.ref D) H'
theorem ok_law_edges (T : Txt K mg ad fd) : FnOk P w K mg base CX0 2 (ad 9) (fd 9) ["_law_cells_here"] sp_edges := by
  refine T.law_edges.fn.ok sc_law_edges (fun vs H Q E h => ?_) (fun cdv A outer s H vs Q E hr h => ?_)
  · obtain ⟨l, zs, cs, rfl, _⟩ := h
    rfl
  obtain ⟨l, zs, cs, rfl, hl, hn, hz, k⟩ := h
  have qpss3 := @pss3
  have qps_set := @ps_set
  have qpe_nnew := @pe_nnew
  have qps_for := @ps_for
  have qpi_list := @pi_list
  have qpv := @pv
  have qpg_name := @pg_name
  have qpss2 := @pss2
  have qpe_call := @pe_call
  have qpa1 := @pa1
  have qpi_range1 := @pi_range1
  have qpe_int := @pe_int
  have qpss_one := @pss_one
  have qps_nput := @ps_nput
  have qpe_tup := @pe_tup
  have qpa2 := @pa2
  have qpe_ix := @pe_ix
  have qpe_op := @pe_op
  have qpe_bl := @pe_bl
  have qps_ret := @ps_ret
  have qpe_comp := @pe_comp
  unfold L2.CompBody at qpe_comp
  have qpi_dictN := @pi_dictN
  have qpif_one := @pif_one
  have qpt_cmp := @pt_cmp
  have qpc_nnotin := @pc_nnotin
  generalize @L2.PE = QE, @L2.PT = QT, @L2.PW = QW, @L2.PA = QA, @L2.PS = QS, @L2.PSs = QSs, @L2.PG = QG, @L2.PGs = QGs, @L2.PI = QI, @L2.PO = QO, @L2.PIf = QIf, @L2.PC = QC, @L2.PK = QK at qpss3 qps_set qpe_nnew qps_for qpi_list qpv qpg_name qpss2 qpe_call qpa1 qpi_range1 qpe_int qpss_one qps_nput qpe_tup qpa2 qpe_ix qpe_op qpe_bl qps_ret qpe_comp qpi_dictN qpif_one qpt_cmp qpc_nnotin ⊢
  refine ⟨_,
    (qpss3
      (qps_set (i := 1) sc_law_edges.nd rfl (Or.inr rfl) (qpe_nnew (P := P) (w := w) rfl rfl))
      (qps_for PassesOwn.never rfl (qpi_list (qpv 0)) (qpg_name (i := 2) sc_law_edges.nd rfl (Or.inl rfl)) (qpss2
      (qps_set (i := 3) sc_law_edges.nd rfl (Or.inl rfl) (qpe_call (ok_law_ends T) (hr.mono (by decide)) rfl T.law_ends.mg T.law_ends.fn.kp T.law_ends.bn .nil pass0 (qpa1 (qpv 2) ns_Name)))
      (qps_for PassesOwn.never rfl (qpi_range1 rfl T.b_range (qpa1 qpe_int ns_Constant)) (qpg_name (i := 4) sc_law_edges.nd rfl (Or.inl rfl)) (qpss_one (qps_nput (P := P) (w := w) rfl rfl (hu64 hr) (qpv 1) (qpe_tup (qpa2 (qpe_ix ix_listH (qpv 3) (qpv 4) (fun _ _ => rfl)) ns_Subscript (qpe_ix ix_listH (qpv 3) (qpe_op op_mod (qpe_op op_add (qpv 4) qpe_int) qpe_int) (fun _ _ => rfl)) ns_Subscript)) qpe_bl rfl)))))
      (qps_ret (qpe_comp (dsc := defScope s_law_edges) (N := ["_law_cells_here", "_law_sides", "_law_cell_here", "_law_ends_here", "_law_k"]) (own := ["_law_side"]) (ix := [1]) rfl rfl rfl ⟨rfl, by decide +kernel, by decide +kernel, by decide +kernel, by decide +kernel⟩ (qpi_dictN (P := P) (w := w) rfl rfl (qpv 1)) (fun cl C fp s2 H2 xe => ⟨(qpg_name (i := 0) (show List.Nodup (["_law_side", "_law_sides"] : List Str) from by decide +kernel) rfl (Or.inl rfl)), (qpif_one (qpt_cmp (qpc_nnotin (P := P) (w := w) rfl rfl (hu64 hr) (qpe_tup (qpa2 (qpe_ix ix_tupH (qpv 0) qpe_int (fun _ _ => rfl)) ns_Subscript (qpe_ix ix_tupH (qpv 0) qpe_int (fun _ _ => rfl)) ns_Subscript)) (qpv 1)))), (qpv 0)⟩))))
    , ?_⟩
  clear  qpss3 qps_set qpe_nnew qps_for qpi_list qpv qpg_name qpss2 qpe_call qpa1 qpi_range1 qpe_int qpss_one qps_nput qpe_tup qpa2 qpe_ix qpe_op qpe_bl qps_ret qpe_comp qpi_dictN qpif_one qpt_cmp qpc_nnotin QE QT QW QA QS QSs QG QGs QI QO QIf QC QK
  simp only [tNNew, tSeq, tNext, tRet, tRetN, tIfS, tAsg, gName, tDrop, tVar, tC, tOp, tUn, rI, rI0, rU, rEq, rNe, tTest, tB, tNot, tAnd, tOr, tAndV, tOrV, tNotV, tIf, tCB, tCall, tNil, tCons, tTup, tLst, gTup, gCons, gNil, L2.start, rIsi, rIxT, rIxL, cx_K, tyN_non, tyN_bl, tyN_int, tyN_str, isi_ii, isi_ib, isi_it, isi_il, isi_bi, isi_bb, isi_tt, isi_ni, isi_si, isi_ti, isi_li, isi_di, isi_ll, scal_ii, scal_bb, sz0, sz1, sz2, sz3, sz4, List.map_cons, List.map_nil, List.length_cons, List.length_nil, List.replicate, List.cons_append, List.nil_append, List.append_nil, List.getElem?_cons_zero, List.getElem?_cons_succ, List.set_cons_zero, List.set_cons_succ, Option.some.injEq, V.int.injEq, V.bl.injEq, V.ref.injEq, V.ty.injEq, List.cons.injEq, and_true, true_and, exists_eq_left, exists_eq_left', exists_and_left, exists_and_right, exists_eq, exists_eq', and_assoc, Nat.reduceAdd, Nat.reduceSub, Bool.not_true, Bool.not_false, Bool.false_eq_true, if_true, if_false, reduceIte, Nat.zero_add, decide_true, decide_false, selC, comp_K, tYes, Option.join_some, rIxTH, rIxLH, rLenH, rIsiF, at0, at1, at2, at3, at4, at5, at6, at7, at8, HO.tup.injEq, HO.lst.injEq, reduceCtorEq, false_or, or_false, tyF_non, tyF_bl, tyF_int, tyF_str, exists_const, Int.reduceAdd, Int.reduceMul, Int.reduceSub, gSub, rSetL, tSl, tPart, tNoPart, rSlH, upd_same, upd_upd, rIntB, rListH, tBM, tBM0, rAppend, rClear, tPar, gTupH]
  intro S hS
  have gS := same_new hS (nD P w S [])
  refine tFor_mk ?_
  simp only [iList, tSeq, tNext, tRet, tRetN, tIfS, tAsg, gName, tDrop, tVar, tC, tOp, tUn, rI, rI0, rU, rEq, rNe, tTest, tB, tNot, tAnd, tOr, tAndV, tOrV, tNotV, tIf, tCB, tCall, tNil, tCons, tTup, tLst, gTup, gCons, gNil, L2.start, rIsi, rIxT, rIxL, cx_K, tyN_non, tyN_bl, tyN_int, tyN_str, isi_ii, isi_ib, isi_it, isi_il, isi_bi, isi_bb, isi_tt, isi_ni, isi_si, isi_ti, isi_li, isi_di, isi_ll, scal_ii, scal_bb, sz0, sz1, sz2, sz3, sz4, List.map_cons, List.map_nil, List.length_cons, List.length_nil, List.replicate, List.cons_append, List.nil_append, List.append_nil, List.getElem?_cons_zero, List.getElem?_cons_succ, List.set_cons_zero, List.set_cons_succ, Option.some.injEq, V.int.injEq, V.bl.injEq, V.ref.injEq, V.ty.injEq, List.cons.injEq, and_true, true_and, exists_eq_left, exists_eq_left', exists_and_left, exists_and_right, exists_eq, exists_eq', and_assoc, Nat.reduceAdd, Nat.reduceSub, Bool.not_true, Bool.not_false, Bool.false_eq_true, if_true, if_false, reduceIte, Nat.zero_add, decide_true, decide_false, selC, comp_K, tYes, Option.join_some, rIxTH, rIxLH, rLenH, rIsiF, at0, at1, at2, at3, at4, at5, at6, at7, at8, HO.tup.injEq, HO.lst.injEq, reduceCtorEq, false_or, or_false, tyF_non, tyF_bl, tyF_int, tyF_str, exists_const, Int.reduceAdd, Int.reduceMul, Int.reduceSub, gSub, rSetL, tSl, tPart, tNoPart, rSlH, upd_same, upd_upd, rIntB, rListH, tBM, tBM0, rAppend, rClear, tPar, gTupH]
  refine ⟨⟨_, .of (gS _ _ hl)⟩, ?_⟩
  refine for_list (K := K) (a := l) (xs := zs) (fun i σ H' => Same H H' ∧ ∃ (kvs : List N3) (o1 o2 o3 : Option V), σ = [some (V.ref l), some (V.ref S), o1, o2, o3] ∧ H' S = some (nD P w S kvs) ∧ kvs.length ≤ 3 * i ∧ EdK H' kvs) ⟨gS, [], none, none, none, rfl, upd_same, Nat.le_refl _, fun p hp => (by cases hp)⟩ (fun i σ H' _ iv => .of (iv.1 _ _ hl)) ?_ ?_
  · rintro i v σ H2 hi ⟨g2, kvs, o1, o2, o3, rfl, hS2, hk, ek⟩
    obtain ⟨p, c, rfl, hc', hc⟩ := hz.2 i v hi
    have hi' := (List.getElem?_eq_some_iff.mp hi).1
    simp only [tSeq, tNext, tRet, tRetN, tIfS, tAsg, gName, tDrop, tVar, tC, tOp, tUn, rI, rI0, rU, rEq, rNe, tTest, tB, tNot, tAnd, tOr, tAndV, tOrV, tNotV, tIf, tCB, tCall, tNil, tCons, tTup, tLst, gTup, gCons, gNil, L2.start, rIsi, rIxT, rIxL, cx_K, tyN_non, tyN_bl, tyN_int, tyN_str, isi_ii, isi_ib, isi_it, isi_il, isi_bi, isi_bb, isi_tt, isi_ni, isi_si, isi_ti, isi_li, isi_di, isi_ll, scal_ii, scal_bb, sz0, sz1, sz2, sz3, sz4, List.map_cons, List.map_nil, List.length_cons, List.length_nil, List.replicate, List.cons_append, List.nil_append, List.append_nil, List.getElem?_cons_zero, List.getElem?_cons_succ, List.set_cons_zero, List.set_cons_succ, Option.some.injEq, V.int.injEq, V.bl.injEq, V.ref.injEq, V.ty.injEq, List.cons.injEq, and_true, true_and, exists_eq_left, exists_eq_left', exists_and_left, exists_and_right, exists_eq, exists_eq', and_assoc, Nat.reduceAdd, Nat.reduceSub, Bool.not_true, Bool.not_false, Bool.false_eq_true, if_true, if_false, reduceIte, Nat.zero_add, decide_true, decide_false, selC, comp_K, tYes, Option.join_some, rIxTH, rIxLH, rLenH, rIsiF, at0, at1, at2, at3, at4, at5, at6, at7, at8, HO.tup.injEq, HO.lst.injEq, reduceCtorEq, false_or, or_false, tyF_non, tyF_bl, tyF_int, tyF_str, exists_const, Int.reduceAdd, Int.reduceMul, Int.reduceSub, gSub, rSetL, tSl, tPart, tNoPart, rSlH, upd_same, upd_upd, rIntB, rListH, tBM, tBM0, rAppend, rClear, tPar, gTupH]
    refine ⟨p, c, rfl, c3_ts _ _ _ _ (ts_same g2) hc, fun L e0 e1 e2 a0 a1 a2 H3 hL g3 hL3 p0 p1 p2 b0 b1 b2 n01 n12 n20 => ?_⟩
    have g03 := g2.trans g3
    refine tFor_mk ?_
    simp only [iRng1, tSeq, tNext, tRet, tRetN, tIfS, tAsg, gName, tDrop, tVar, tC, tOp, tUn, rI, rI0, rU, rEq, rNe, tTest, tB, tNot, tAnd, tOr, tAndV, tOrV, tNotV, tIf, tCB, tCall, tNil, tCons, tTup, tLst, gTup, gCons, gNil, L2.start, rIsi, rIxT, rIxL, cx_K, tyN_non, tyN_bl, tyN_int, tyN_str, isi_ii, isi_ib, isi_it, isi_il, isi_bi, isi_bb, isi_tt, isi_ni, isi_si, isi_ti, isi_li, isi_di, isi_ll, scal_ii, scal_bb, sz0, sz1, sz2, sz3, sz4, List.map_cons, List.map_nil, List.length_cons, List.length_nil, List.replicate, List.cons_append, List.nil_append, List.append_nil, List.getElem?_cons_zero, List.getElem?_cons_succ, List.set_cons_zero, List.set_cons_succ, Option.some.injEq, V.int.injEq, V.bl.injEq, V.ref.injEq, V.ty.injEq, List.cons.injEq, and_true, true_and, exists_eq_left, exists_eq_left', exists_and_left, exists_and_right, exists_eq, exists_eq', and_assoc, Nat.reduceAdd, Nat.reduceSub, Bool.not_true, Bool.not_false, Bool.false_eq_true, if_true, if_false, reduceIte, Nat.zero_add, decide_true, decide_false, selC, comp_K, tYes, Option.join_some, rIxTH, rIxLH, rLenH, rIsiF, at0, at1, at2, at3, at4, at5, at6, at7, at8, HO.tup.injEq, HO.lst.injEq, reduceCtorEq, false_or, or_false, tyF_non, tyF_bl, tyF_int, tyF_str, exists_const, Int.reduceAdd, Int.reduceMul, Int.reduceSub, gSub, rSetL, tSl, tPart, tNoPart, rSlH, upd_same, upd_upd, rIntB, rListH, tBM, tBM0, rAppend, rClear, tPar, gTupH]
    have nLS : L ≠ S := (ne_of_none hS2 hL).symm
    refine ⟨by decide, by decide, for_range (fun j σ H' => Same H H' ∧ TupSame H3 H' ∧ H' L = some (.lst [.ref e0, .ref e1, .ref e2]) ∧ ∃ (kvs : List N3) (o : Option V), σ = [some (V.ref l), some (V.ref S), some (V.ref p), some (V.ref L), o] ∧ H' S = some (nD P w S kvs) ∧ kvs.length ≤ 3 * i + j ∧ EdK H' kvs) ⟨g03, fun _ _ h => h, hL3, kvs, o3, rfl, g3 _ _ hS2, hk, ek.ts (ts_same g3)⟩ ?_ ?_⟩
    · rintro j σ H4 hj ⟨g4, t4, hL4, kvs, o, rfl, hS4, hk4, ek4⟩
      obtain ⟨A0, A1, f0, f1, e0', e1', q0, q1, c0, c1, nf⟩ : ∃ (A0 A1 : Addr) (f0 f1 : Int × Int), atI [V.ref e0, V.ref e1, V.ref e2] (j : Int) = some (.ref A0) ∧ atI [V.ref e0, V.ref e1, V.ref e2] (((j : Int) + 1) % 3) = some (.ref A1) ∧ P2H H3 A0 f0 ∧ P2H H3 A1 f1 ∧ Bx f0 ∧ Bx f1 ∧ f0 ≠ f1 := by
        have hj3 : j < 3 := hj
        rcases (by omega : j = 0 ∨ j = 1 ∨ j = 2) with e | e | e <;> subst e
        · exact ⟨e0, e1, _, _, at0, at1, p0, p1, b0, b1, n01⟩
        · exact ⟨e1, e2, _, _, at1, at2, p1, p2, b1, b2, n12⟩
        · exact ⟨e2, e0, _, _, at2, at0, p2, p0, b2, b0, n20⟩
      simp only [sNPut, tSeq, tNext, tRet, tRetN, tIfS, tAsg, gName, tDrop, tVar, tC, tOp, tUn, rI, rI0, rU, rEq, rNe, tTest, tB, tNot, tAnd, tOr, tAndV, tOrV, tNotV, tIf, tCB, tCall, tNil, tCons, tTup, tLst, gTup, gCons, gNil, L2.start, rIsi, rIxT, rIxL, cx_K, tyN_non, tyN_bl, tyN_int, tyN_str, isi_ii, isi_ib, isi_it, isi_il, isi_bi, isi_bb, isi_tt, isi_ni, isi_si, isi_ti, isi_li, isi_di, isi_ll, scal_ii, scal_bb, sz0, sz1, sz2, sz3, sz4, List.map_cons, List.map_nil, List.length_cons, List.length_nil, List.replicate, List.cons_append, List.nil_append, List.append_nil, List.getElem?_cons_zero, List.getElem?_cons_succ, List.set_cons_zero, List.set_cons_succ, Option.some.injEq, V.int.injEq, V.bl.injEq, V.ref.injEq, V.ty.injEq, List.cons.injEq, and_true, true_and, exists_eq_left, exists_eq_left', exists_and_left, exists_and_right, exists_eq, exists_eq', and_assoc, Nat.reduceAdd, Nat.reduceSub, Bool.not_true, Bool.not_false, Bool.false_eq_true, if_true, if_false, reduceIte, Nat.zero_add, decide_true, decide_false, selC, comp_K, tYes, Option.join_some, rIxTH, rIxLH, rLenH, rIsiF, at0, at1, at2, at3, at4, at5, at6, at7, at8, HO.tup.injEq, HO.lst.injEq, reduceCtorEq, false_or, or_false, tyF_non, tyF_bl, tyF_int, tyF_str, exists_const, Int.reduceAdd, Int.reduceMul, Int.reduceSub, gSub, rSetL, tSl, tPart, tNoPart, rSlH, upd_same, upd_upd, rIntB, rListH, tBM, tBM0, rAppend, rClear, tPar, gTupH, Int.zero_add, hL4, e0', e1']
      refine ⟨by decide, fun t ht => ?_⟩
      have g5 := same_new ht (HO.tup [V.ref A0, V.ref A1])
      have h5 : upd H4 t (HO.tup [V.ref A0, V.ref A1]) t = some (HO.tup [V.ref A0, V.ref A1]) := upd_same
      generalize upd H4 t (HO.tup [V.ref A0, V.ref A1]) = H5 at *
      have hS5 := g5 _ _ hS4
      have t35 := ts_trans t4 (ts_same g5)
      have ed : EdH H5 t (f0, f1) := ⟨⟨A0, A1, h5, t35 _ _ q0, t35 _ _ q1⟩, c0, c1, nf⟩
      have ek5 := ek4.ts (ts_same g5)
      refine ⟨kvs, hS5, ek5.kn, [kP f0, kP f1], ed.nk, small1000 (by omega), same_put (g4.trans g5) hS, ts_trans t35 (ts_putN hS5), ?_, _, rfl, Nat.le_trans (putN_len _ _ _ _) (by omega), (ek5.put ed).ts (ts_putN hS5)⟩
      rw [upd_ne nLS]
      exact g5 _ _ hL4
    · rintro σ H4 ⟨g4, t4, hL4, kvs, o, rfl, hS4, hk4, ek4⟩
      exact ⟨g4, ⟨_, _, _, rfl⟩, kvs, hS4, by have : (Int.toNat 3) = 3 := rfl; omega, ek4⟩
  · rintro σ H2 ⟨g2, kvs, o1, o2, o3, rfl, hS2, hk, ek⟩
    simp only [tSeq, tNext, tRet, tRetN, tIfS, tAsg, gName, tDrop, tVar, tC, tOp, tUn, rI, rI0, rU, rEq, rNe, tTest, tB, tNot, tAnd, tOr, tAndV, tOrV, tNotV, tIf, tCB, tCall, tNil, tCons, tTup, tLst, gTup, gCons, gNil, L2.start, rIsi, rIxT, rIxL, cx_K, tyN_non, tyN_bl, tyN_int, tyN_str, isi_ii, isi_ib, isi_it, isi_il, isi_bi, isi_bb, isi_tt, isi_ni, isi_si, isi_ti, isi_li, isi_di, isi_ll, scal_ii, scal_bb, sz0, sz1, sz2, sz3, sz4, List.map_cons, List.map_nil, List.length_cons, List.length_nil, List.replicate, List.cons_append, List.nil_append, List.append_nil, List.getElem?_cons_zero, List.getElem?_cons_succ, List.set_cons_zero, List.set_cons_succ, Option.some.injEq, V.int.injEq, V.bl.injEq, V.ref.injEq, V.ty.injEq, List.cons.injEq, and_true, true_and, exists_eq_left, exists_eq_left', exists_and_left, exists_and_right, exists_eq, exists_eq', and_assoc, Nat.reduceAdd, Nat.reduceSub, Bool.not_true, Bool.not_false, Bool.false_eq_true, if_true, if_false, reduceIte, Nat.zero_add, decide_true, decide_false, selC, comp_K, tYes, Option.join_some, rIxTH, rIxLH, rLenH, rIsiF, at0, at1, at2, at3, at4, at5, at6, at7, at8, HO.tup.injEq, HO.lst.injEq, reduceCtorEq, false_or, or_false, tyF_non, tyF_bl, tyF_int, tyF_str, exists_const, Int.reduceAdd, Int.reduceMul, Int.reduceSub, gSub, rSetL, tSl, tPart, tNoPart, rSlH, upd_same, upd_upd, rIntB, rListH, tBM, tBM0, rAppend, rClear, tPar, gTupH]
    refine tComp_mk ?_
    simp only [iDictN, tSeq, tNext, tRet, tRetN, tIfS, tAsg, gName, tDrop, tVar, tC, tOp, tUn, rI, rI0, rU, rEq, rNe, tTest, tB, tNot, tAnd, tOr, tAndV, tOrV, tNotV, tIf, tCB, tCall, tNil, tCons, tTup, tLst, gTup, gCons, gNil, L2.start, rIsi, rIxT, rIxL, cx_K, tyN_non, tyN_bl, tyN_int, tyN_str, isi_ii, isi_ib, isi_it, isi_il, isi_bi, isi_bb, isi_tt, isi_ni, isi_si, isi_ti, isi_li, isi_di, isi_ll, scal_ii, scal_bb, sz0, sz1, sz2, sz3, sz4, List.map_cons, List.map_nil, List.length_cons, List.length_nil, List.replicate, List.cons_append, List.nil_append, List.append_nil, List.getElem?_cons_zero, List.getElem?_cons_succ, List.set_cons_zero, List.set_cons_succ, Option.some.injEq, V.int.injEq, V.bl.injEq, V.ref.injEq, V.ty.injEq, List.cons.injEq, and_true, true_and, exists_eq_left, exists_eq_left', exists_and_left, exists_and_right, exists_eq, exists_eq', and_assoc, Nat.reduceAdd, Nat.reduceSub, Bool.not_true, Bool.not_false, Bool.false_eq_true, if_true, if_false, reduceIte, Nat.zero_add, decide_true, decide_false, selC, comp_K, tYes, Option.join_some, rIxTH, rIxLH, rLenH, rIsiF, at0, at1, at2, at3, at4, at5, at6, at7, at8, HO.tup.injEq, HO.lst.injEq, reduceCtorEq, false_or, or_false, tyF_non, tyF_bl, tyF_int, tyF_str, exists_const, Int.reduceAdd, Int.reduceMul, Int.reduceSub, gSub, rSetL, tSl, tPart, tNoPart, rSlH, upd_same, upd_upd, rIntB, rListH, tBM, tBM0, rAppend, rClear, tPar, gTupH]
    refine ⟨kvs, hS2, fun o D hD => ?_⟩
    have gF : Same H (upd H2 S (HO.frz o (nD P w S kvs))) := same_put g2 hS
    have hSF : upd H2 S (HO.frz o (nD P w S kvs)) S = some (HO.frz o (nD P w S kvs)) := upd_same
    have ekF := ek.ts (ts_putN (o := HO.frz o (nD P w S kvs)) hS2)
    generalize upd H2 S (HO.frz o (nD P w S kvs)) = H3 at *
    have lk : (kvs.map fun p => p.2.1).length = kvs.length := List.length_map _
    refine comp_dictF (fun i ys H' => Same H3 H' ∧ H' D = some (.lst ys) ∧ ys.length ≤ i ∧ ∃ es, LR EdH H' ys es) ⟨same_new hD _, upd_same, Nat.le_refl _, [], .nil⟩ (fun i ys H' z => z.1 _ _ hSF) ?_ ?_
    · rintro i ys H4 b hb ⟨g4, hD4, hy, es, he⟩
      have hi := (List.getElem?_eq_some_iff.mp hb).1
      rw [List.getElem?_map] at hb
      obtain ⟨q, hq, eb⟩ := Option.map_eq_some_iff.mp hb
      obtain ⟨e, e1, e2⟩ := ekF q (List.mem_of_getElem? hq)
      rw [eb] at e2
      have e4 := ed_ts _ _ _ _ (ts_same g4) e2
      obtain ⟨⟨c, d, h1, h2, h3⟩, b1, b2, ne⟩ := id e4
      simp only [tNNotIn, tSeq, tNext, tRet, tRetN, tIfS, tAsg, gName, tDrop, tVar, tC, tOp, tUn, rI, rI0, rU, rEq, rNe, tTest, tB, tNot, tAnd, tOr, tAndV, tOrV, tNotV, tIf, tCB, tCall, tNil, tCons, tTup, tLst, gTup, gCons, gNil, L2.start, rIsi, rIxT, rIxL, cx_K, tyN_non, tyN_bl, tyN_int, tyN_str, isi_ii, isi_ib, isi_it, isi_il, isi_bi, isi_bb, isi_tt, isi_ni, isi_si, isi_ti, isi_li, isi_di, isi_ll, scal_ii, scal_bb, sz0, sz1, sz2, sz3, sz4, List.map_cons, List.map_nil, List.length_cons, List.length_nil, List.replicate, List.cons_append, List.nil_append, List.append_nil, List.getElem?_cons_zero, List.getElem?_cons_succ, List.set_cons_zero, List.set_cons_succ, Option.some.injEq, V.int.injEq, V.bl.injEq, V.ref.injEq, V.ty.injEq, List.cons.injEq, and_true, true_and, exists_eq_left, exists_eq_left', exists_and_left, exists_and_right, exists_eq, exists_eq', and_assoc, Nat.reduceAdd, Nat.reduceSub, Bool.not_true, Bool.not_false, Bool.false_eq_true, if_true, if_false, reduceIte, Nat.zero_add, decide_true, decide_false, selC, comp_K, tYes, Option.join_some, rIxTH, rIxLH, rLenH, rIsiF, at0, at1, at2, at3, at4, at5, at6, at7, at8, HO.tup.injEq, HO.lst.injEq, reduceCtorEq, false_or, or_false, tyF_non, tyF_bl, tyF_int, tyF_str, exists_const, Int.reduceAdd, Int.reduceMul, Int.reduceSub, gSub, rSetL, tSl, tPart, tNoPart, rSlH, upd_same, upd_upd, rIntB, rListH, tBM, tBM0, rAppend, rClear, tPar, gTupH, h1]
      intro t ht
      have g5 := same_new ht (HO.tup [V.ref d, V.ref c])
      have h5 : upd H4 t (HO.tup [V.ref d, V.ref c]) t = some (HO.tup [V.ref d, V.ref c]) := upd_same
      generalize upd H4 t (HO.tup [V.ref d, V.ref c]) = H5 at *
      have g35 := g4.trans g5
      have ek5 := ekF.ts (ts_same g35)
      have e5 := ed_ts _ _ _ _ (ts_same g5) e4
      have hD5 := g5 _ _ hD4
      refine ⟨kvs, .inr ⟨o, g35 _ _ hSF⟩, ek5.kn, [kP e.2, kP e.1], NK.two h5 (g5 _ _ h3) (g5 _ _ h2), ite2 (fun _ => ?_) (fun _ => ?_)⟩
      · refine cw_put hi hD5 (small1000 (by rw [lk] at hi; omega)) ⟨same_put g35 hD, upd_same, by rw [List.length_append, List.length_singleton]; omega, _, ((he.ts ed_ts (ts_same g5)).snoc e5).ts ed_ts (ts_put hD5)⟩
      · exact cw_skip hi (ys := ys) ⟨g35, hD5, by omega, es, he.ts ed_ts (ts_same g5)⟩
    · rintro ys H4 ⟨g4, hD4, hy, es, he⟩
      rw [lk] at hy
      exact k D ys es H4 (gF.free hD) (gF.trans g4) hD4 (by omega) he
theorem isD_t {H : Hp} {d : Addr} {kvs : List (List Key × V)} (h : H d = some (.dT kvs)) : IsD H d := .inr ⟨kvs, .inl h⟩
def BxV (H : Hp) (u : V) : Prop := ∃ p c, u = .ref p ∧ P2H H p c ∧ Bx c
theorem BxV.ts {H H' : Hp} {u : V} (h : BxV H u) (g : TupSame H H') : BxV H' u := by
  obtain ⟨p, c, e, h1, h2⟩ := h
  exact ⟨p, c, e, g _ _ h1, h2⟩
structure StT (H0 H : Hp) (d : Addr) (kvs : List (List Key × V)) (m : Nat) : Prop where
  same : Same H0 H
  new : H0 d = none
  at_ : H d = some (.dT kvs)
  len : kvs.length ≤ m
  ent : ∀ k v, valV kvs k = some v → ∃ a ys, v = .ref a ∧ H0 a = none ∧ H a = some (.lst ys) ∧ ys.length ≤ m ∧ ∀ u, u ∈ ys → BxV H u
theorem StT.mono {H0 H H' : Hp} {d : Addr} {kvs : List (List Key × V)} {m : Nat} (h : StT H0 H d kvs m) (g : Same H H') : StT H0 H' d kvs m :=
  ⟨h.same.trans g, h.new, g _ _ h.at_, h.len, fun k v e => by
    obtain ⟨a, ys, e1, e2, e3, e4, e5⟩ := h.ent k v e
    exact ⟨a, ys, e1, e2, g _ _ e3, e4, fun u hu => (e5 u hu).ts (ts_same g)⟩⟩
theorem StT.keep {H0 H : Hp} {d D : Addr} {kvs : List (List Key × V)} {m : Nat} {zs us : List V} (h : StT H0 H d kvs m) (hD : H D = some (.lst zs)) (h0 : H0 D = none) (nD : ∀ k, valV kvs k ≠ some (.ref D)) : StT H0 (upd H D (.lst us)) d kvs m := by
  refine ⟨same_put h.same h0, h.new, ?_, h.len, fun k v e => ?_⟩
  · rw [upd_ne (fun z => by rw [← z, h.at_] at hD; cases hD)]
    exact h.at_
  · obtain ⟨a, ys, e1, e2, e3, e4, e5⟩ := h.ent k v e
    refine ⟨a, ys, e1, e2, ?_, e4, fun u hu => (e5 u hu).ts (ts_put hD)⟩
    rw [upd_ne (fun z => nD k (by rw [e, e1, z]))]
    exact e3
theorem StT.app {H0 H : Hp} {d a t : Addr} {kvs : List (List Key × V)} {m : Nat} {p : Int × Int} {b : V} {Q : VK} (h : StT H0 H d kvs m) (hm : m < 500) (ha : P2H H a p) (hb : BxV H b) (ht : H t = none)
    (k : ∀ (l : Addr) (H1 : Hp) (zs : List V) kvs', H1 l = some (.lst zs) → zs.length < sizeLine → StT H0 (upd H1 l (.lst (zs ++ [b]))) d kvs' (m + 1) → Q (.ref l) H1) : rSD d (.ref a) (.ref t) (upd H t (.lst [])) Q := by
  have g := same_new ht (HO.lst [])
  have hg := h.mono g
  refine ⟨kvs, kP p, a, hg.at_, rfl, g _ _ ha, small1000 (by have := h.len; omega), fun v hv => ?_, fun hv => ?_⟩
  · obtain ⟨l, ys, rfl, e2, e3, e4, e5⟩ := hg.ent _ _ hv
    refine k l _ ys kvs e3 (small1000 (by omega)) ⟨same_put hg.same e2, h.new, ?_, by have := h.len; omega, fun k' v' hv' => ?_⟩
    · rw [upd_ne (fun z => by rw [← z, hg.at_] at e3; cases e3)]
      exact hg.at_
    · obtain ⟨l', ys', rfl, f2, f3, f4, f5⟩ := hg.ent _ _ hv'
      by_cases el : l' = l
      · subst el
        rw [e3] at f3
        cases f3
        refine ⟨l', _, rfl, f2, upd_same, by rw [List.length_append, List.length_singleton]; omega, fun u hu => ?_⟩
        rcases List.mem_append.mp hu with hu | hu
        · exact (e5 u hu).ts (ts_put e3)
        · rw [List.mem_singleton.mp hu]
          exact (hb.ts (ts_same g)).ts (ts_put e3)
      · exact ⟨l', ys', rfl, f2, by rw [upd_ne el]; exact f3, by omega, fun u hu => (f5 u hu).ts (ts_put e3)⟩
  · have td : t ≠ d := fun z => by rw [z, h.at_] at ht; cases ht
    have h0t := h.same.free ht
    have up : ∀ b' o, b' ≠ d → H b' = some o → upd (upd (upd H t (.lst [])) d (.dT (putK kvs (kP p) (.ref t)))) t (.lst [b]) b' = some o := fun b' o nb hb' => by
      have nt : b' ≠ t := fun z => by rw [z, ht] at hb'; cases hb'
      rw [upd_ne nt, upd_ne nb, upd_ne nt]
      exact hb'
    have ts : TupSame H (upd (upd (upd H t (.lst [])) d (.dT (putK kvs (kP p) (.ref t)))) t (.lst [b])) := fun b' xs hb' => up b' _ (fun z => by rw [z, h.at_] at hb'; cases hb') hb'
    refine k t _ [] (putK kvs (kP p) (.ref t)) (by rw [upd_ne td]; exact upd_same) (small1000 (by simp)) ⟨fun b' o hb' => up b' o (fun z => by rw [z, h.new] at hb'; cases hb') (h.same _ _ hb'), h.new, by rw [upd_ne td.symm]; exact upd_same, Nat.le_trans (length_putK _ _ _) (by have := h.len; omega), fun k' v' hv' => ?_⟩
    rw [valV_put] at hv'
    by_cases ek : k' = kP p
    · rw [if_pos ek] at hv'
      cases hv'
      refine ⟨t, [b], rfl, h0t, upd_same, by simp, fun u hu => ?_⟩
      rw [List.mem_singleton.mp hu]
      exact hb.ts ts
    · rw [if_neg ek] at hv'
      obtain ⟨l', ys', rfl, f2, f3, f4, f5⟩ := h.ent _ _ hv'
      exact ⟨l', ys', rfl, f2, up _ _ (fun z => by rw [z, h.at_] at f3; cases f3) f3, by omega, fun u hu => (f5 u hu).ts ts⟩
def d2 (a : Int × Int) : PyData := .tuple [.int a.1, .int a.2]
theorem rd_2 {K : PySem.W.Frag} {H : Hp} {p : Addr} {a : Int × Int} (h : P2H H p a) : RdD K H (d2 a) (.ref p) := by
  unfold d2
  rw [RdD]
  refine ⟨p, _, rfl, .of h, ?_⟩
  rw [RdDs]
  refine ⟨_, _, rfl, by rw [RdD], ?_⟩
  rw [RdDs]
  refine ⟨_, _, rfl, by rw [RdD], ?_⟩
  rw [RdDs]
theorem d2_shaped (a : Int × Int) : SeqAt.shaped (d2 a) = true := by
  simp [d2, SeqAt.shaped, PyData.canLay0, PyData.canLayAll0, PyData.depth, PyData.depthAll]
theorem d2_eqv (a b : Int × Int) : PyData.eqv (d2 a) (d2 b) = decide (a = b) := by
  rw [Bool.eq_iff_iff]
  obtain ⟨x, y⟩ := a
  obtain ⟨x', y'⟩ := b
  simp [d2, PyData.eqv, PyData.eqvAll]
theorem d2_lay (a : Int × Int) : (d2 a).canLay0 = true ∧ (d2 a).depth ≤ 3 := by
  simp [d2, PyData.canLay0, PyData.canLayAll0, PyData.depth, PyData.depthAll]
theorem d2s_lay (F : List (Int × Int)) : PyData.canLayAll0 (F.map d2) = true ∧ PyData.depthAll (F.map d2) ≤ 3 := by
  induction F with
  | nil => exact ⟨rfl, by simp [PyData.depthAll]⟩
  | cons r F ih =>
    have h := d2_lay r
    rw [List.map_cons]
    constructor
    · rw [PyData.canLayAll0, h.1, ih.1]; rfl
    · rw [PyData.depthAll]
      have := h.2
      have := ih.2
      omega
theorem rd_bx {K : PySem.W.Frag} {H : Hp} : ∀ us : List V, (∀ x, x ∈ us → BxV H x) → ∃ cs : List (Int × Int), RdDs K H (cs.map d2) us
  | [], _ => ⟨[], by rw [List.map_nil, RdDs]⟩
  | u :: us, h => by
    obtain ⟨cs, hc⟩ := rd_bx us fun x hx => h x (List.mem_cons_of_mem _ hx)
    obtain ⟨p, c, rfl, hp, _⟩ := h u (by simp)
    refine ⟨c :: cs, ?_⟩
    rw [List.map_cons, RdDs]
    exact ⟨_, _, rfl, rd_2 hp, hc⟩
def onP (a b : Int × Int) : Int × Int := (2 * b.1 - a.1, 2 * b.2 - a.2)
def sp_straight : Sp := fun vs H Q _ => ∃ (H0 : Hp) (d p q : Addr) (kvs : List (List Key × V)) (m : Nat) (a b : Int × Int), vs = [.ref d, .ref p, .ref q] ∧ StT H0 H d kvs m ∧ m ≤ 500 ∧ P2H H p a ∧ P2H H q b ∧ ∀ (r : Bool) H', Same H H' → (r = true → Bx (onP a b)) → Q (.bl r) H'
theorem ok_law_straight (T : Txt K mg ad fd) : FnOk P w K mg base CX0 1 (ad 10) (fd 10) ["_law_starts", "_law_begin", "_law_end"] sp_straight := by
  refine T.law_straight.fn.ok sc_law_straight (fun vs H Q E h => ?_) (fun cdv A outer s H vs Q E hr h => ?_)
  · obtain ⟨H0, d, p, q, kvs, m, a, b, rfl, _⟩ := h
    rfl
  obtain ⟨H0, d, p, q, kvs, m, a, b, rfl, st, hm, hp, hq, k⟩ := h
  have qpss2 := @pss2
  have qps_set := @ps_set
  have qpe_dget2 := @pe_dget2
  have qpv := @pv
  have qpe_lst := @pe_lst
  have qpa_nil := @pa_nil
  have qps_ret := @ps_ret
  have qpe_and := @pe_and
  have qpe_cmpR := @pe_cmpR
  have qpe_callB := @pe_callB
  have qpa1 := @pa1
  have qpe_int := @pe_int
  have qpe_one := @pe_one
  have qpe_ix := @pe_ix
  have qpe_tup := @pe_tup
  have qpa2 := @pa2
  have qpe_op := @pe_op
  generalize @L2.PE = QE, @L2.PT = QT, @L2.PW = QW, @L2.PA = QA, @L2.PS = QS, @L2.PSs = QSs, @L2.PG = QG, @L2.PGs = QGs, @L2.PI = QI, @L2.PO = QO, @L2.PIf = QIf at qpss2 qps_set qpe_dget2 qpv qpe_lst qpa_nil qps_ret qpe_and qpe_cmpR qpe_callB qpa1 qpe_int qpe_one qpe_ix qpe_tup qpa2 qpe_op ⊢
  refine ⟨_,
    (qpss2
      (qps_set (i := 3) sc_law_straight.nd rfl (Or.inl rfl) (qpe_dget2 (hu_of hr) (qpv 0) (qpv 2) (qpe_lst qpa_nil) ⟨rfl, rfl, rfl, rfl⟩))
      (qps_ret (qpe_and (qpe_cmpR op_eq (qpe_callB call_lenH rfl T.b_len bt_len (qpa1 (qpv 3) ns_Name)) qpe_int (nomark _)) (qpe_one (qpe_cmpR (op_eqD (hu64 hr)) (qpe_ix ix_listH (qpv 3) qpe_int (fun _ _ => rfl)) (qpe_tup (qpa2 (qpe_op op_sub (qpe_op op_mul qpe_int (qpe_ix ix_tupH (qpv 2) qpe_int (fun _ _ => rfl))) (qpe_ix ix_tupH (qpv 1) qpe_int (fun _ _ => rfl))) ns_BinOp (qpe_op op_sub (qpe_op op_mul qpe_int (qpe_ix ix_tupH (qpv 2) qpe_int (fun _ _ => rfl))) (qpe_ix ix_tupH (qpv 1) qpe_int (fun _ _ => rfl))) ns_BinOp)) (nomark _))))))
    , ?_⟩
  clear  qpss2 qps_set qpe_dget2 qpv qpe_lst qpa_nil qps_ret qpe_and qpe_cmpR qpe_callB qpa1 qpe_int qpe_one qpe_ix qpe_tup qpa2 qpe_op QE QT QW QA QS QSs QG QGs QI QO QIf
  have hp' : H p = some (.tup [.int a.1, .int a.2]) := hp
  have hq' : H q = some (.tup [.int b.1, .int b.2]) := hq
  simp only [tDGet2, tSeq, tNext, tRet, tRetN, tIfS, tAsg, gName, tDrop, tVar, tC, tOp, tUn, rI, rI0, rU, rEq, rNe, tTest, tB, tNot, tAnd, tOr, tAndV, tOrV, tNotV, tIf, tCB, tCall, tNil, tCons, tTup, tLst, gTup, gCons, gNil, L2.start, rIsi, rIxT, rIxL, cx_K, tyN_non, tyN_bl, tyN_int, tyN_str, isi_ii, isi_ib, isi_it, isi_il, isi_bi, isi_bb, isi_tt, isi_ni, isi_si, isi_ti, isi_li, isi_di, isi_ll, scal_ii, scal_bb, sz0, sz1, sz2, sz3, sz4, List.map_cons, List.map_nil, List.length_cons, List.length_nil, List.replicate, List.cons_append, List.nil_append, List.append_nil, List.getElem?_cons_zero, List.getElem?_cons_succ, List.set_cons_zero, List.set_cons_succ, Option.some.injEq, V.int.injEq, V.bl.injEq, V.ref.injEq, V.ty.injEq, List.cons.injEq, and_true, true_and, exists_eq_left, exists_eq_left', exists_and_left, exists_and_right, exists_eq, exists_eq', and_assoc, Nat.reduceAdd, Nat.reduceSub, Bool.not_true, Bool.not_false, Bool.false_eq_true, if_true, if_false, reduceIte, Nat.zero_add, decide_true, decide_false, selC, comp_K, tYes, Option.join_some, rIxTH, rIxLH, rLenH, rIsiF, at0, at1, at2, at3, at4, at5, at6, at7, at8, HO.tup.injEq, HO.lst.injEq, reduceCtorEq, false_or, or_false, tyF_non, tyF_bl, tyF_int, tyF_str, exists_const, Int.reduceAdd, Int.reduceMul, Int.reduceSub, gSub, rSetL, tSl, tPart, tNoPart, rSlH, upd_same, upd_upd, rIntB, rListH, tBM, tBM0, rAppend, rClear, tPar, gTupH]
  refine ⟨isD_t st.at_, fun t ht => ?_⟩
  have g := same_new ht (HO.lst [])
  have ht1 : upd H t (HO.lst []) t = some (HO.lst []) := upd_same
  generalize upd H t (HO.lst []) = H1 at *
  have st1 := st.mono g
  have hp1 : H1 p = some (.tup [.int a.1, .int a.2]) := g _ _ hp
  have hq1 : H1 q = some (.tup [.int b.1, .int b.2]) := g _ _ hq
  refine ⟨valV kvs (kP b), .t (k := kP b) st1.at_ hq1, ?_⟩
  cases e : valV kvs (kP b) with
  | none =>
    refine ⟨t, rfl, [], .inl ht1, ?_⟩
    rw [decide_eq_false (by decide)]
    exact iteF (k false H1 g fun z => by cases z)
  | some v =>
    obtain ⟨l, ys, rfl, _, e3, e4, e5⟩ := st1.ent _ _ e
    refine ⟨l, rfl, ys, .inl e3, ite2 (fun c => ?_) (fun c => k false H1 g fun z => by cases z)⟩
    have c := of_decide_eq_true c
    have c1 : ys.length = 1 := by omega
    match ys, c1, e3, e5 with
    | [u], _, e3, e5 =>
      obtain ⟨pu, cu, rfl, hu, bu⟩ := e5 u (by simp)
      refine ⟨l, rfl, _, e3, _, at0, ?_⟩
      simp only [tSeq, tNext, tRet, tRetN, tIfS, tAsg, gName, tDrop, tVar, tC, tOp, tUn, rI, rI0, rU, rEq, rNe, tTest, tB, tNot, tAnd, tOr, tAndV, tOrV, tNotV, tIf, tCB, tCall, tNil, tCons, tTup, tLst, gTup, gCons, gNil, L2.start, rIsi, rIxT, rIxL, cx_K, tyN_non, tyN_bl, tyN_int, tyN_str, isi_ii, isi_ib, isi_it, isi_il, isi_bi, isi_bb, isi_tt, isi_ni, isi_si, isi_ti, isi_li, isi_di, isi_ll, scal_ii, scal_bb, sz0, sz1, sz2, sz3, sz4, List.map_cons, List.map_nil, List.length_cons, List.length_nil, List.replicate, List.cons_append, List.nil_append, List.append_nil, List.getElem?_cons_zero, List.getElem?_cons_succ, List.set_cons_zero, List.set_cons_succ, Option.some.injEq, V.int.injEq, V.bl.injEq, V.ref.injEq, V.ty.injEq, List.cons.injEq, and_true, true_and, exists_eq_left, exists_eq_left', exists_and_left, exists_and_right, exists_eq, exists_eq', and_assoc, Nat.reduceAdd, Nat.reduceSub, Bool.not_true, Bool.not_false, Bool.false_eq_true, if_true, if_false, reduceIte, Nat.zero_add, decide_true, decide_false, selC, comp_K, tYes, Option.join_some, rIxTH, rIxLH, rLenH, rIsiF, at0, at1, at2, at3, at4, at5, at6, at7, at8, HO.tup.injEq, HO.lst.injEq, reduceCtorEq, false_or, or_false, tyF_non, tyF_bl, tyF_int, tyF_str, exists_const, Int.reduceAdd, Int.reduceMul, Int.reduceSub, gSub, rSetL, tSl, tPart, tNoPart, rSlH, upd_same, upd_upd, rIntB, rListH, tBM, tBM0, rAppend, rClear, tPar, gTupH, hp1, hq1]
      refine ⟨.inl ⟨by decide, by decide⟩, .inl ⟨by decide, by decide⟩, fun r hr' => ?_⟩
      have g2 := same_new hr' (HO.tup [V.int (2 * b.1 - a.1), V.int (2 * b.2 - a.2)])
      have h2 : P2H (upd H1 r (HO.tup [V.int (2 * b.1 - a.1), V.int (2 * b.2 - a.2)])) r (onP a b) := upd_same
      generalize upd H1 r (HO.tup [V.int (2 * b.1 - a.1), V.int (2 * b.2 - a.2)]) = H2 at *
      refine ⟨_, _, rd_2 (p2_ts _ _ _ _ (ts_same g2) hu), rd_2 h2, d2_shaped _, d2_shaped _, ?_⟩
      rw [d2_eqv]
      exact k _ H2 (g.trans g2) fun z => by rw [← of_decide_eq_true z]; exact bu
def WyH (H : Hp) (p : Addr) (e : E2) : Prop := (∃ c d, H p = some (.tup [.ref c, .ref d]) ∧ P2H H c e.1 ∧ P2H H d e.2) ∧ Bx e.1 ∧ Bx e.2
theorem wy_ts : ∀ (H H' : Hp) (p : Addr) (e : E2), TupSame H H' → WyH H p e → WyH H' p e := fun _ _ _ _ g ⟨⟨c, d, h1, h2, h3⟩, b⟩ => ⟨⟨c, d, g _ _ h1, g _ _ h2, g _ _ h3⟩, b⟩
def sp_long : Sp := fun vs H Q _ => ∃ (l : Addr) (ys : List V) (es : List E2), vs = [.ref l] ∧ H l = some (.lst ys) ∧ ys.length ≤ 144 ∧ LR EdH H ys es ∧ ∀ D zs ws H', H D = none → Same H H' → H' D = some (.lst zs) → zs.length ≤ 144 → LR WyH H' zs ws → Q (.ref D) H'
def mu (dx dy : Int) (H : Hp) (σ : St) : Nat := match (σ : List (Option V))[7]? with
  | some (some (V.ref p)) => (match H p with
    | some (.tup [.int x, .int y]) => (if 0 < dx then 8 - x else if dx < 0 then x else if 0 < dy then 6 - y else y).toNat
    | _ => 0)
  | _ => 0
theorem mu_of {dx dy : Int} {H : Hp} {v0 v1 v2 v3 v4 v5 v6 : Option V} {p : Addr} {a : Int × Int} (h : P2H H p a) : mu dx dy H [v0, v1, v2, v3, v4, v5, v6, some (.ref p)] = (if 0 < dx then 8 - a.1 else if dx < 0 then a.1 else if 0 < dy then 6 - a.2 else a.2).toNat := by
  unfold P2H at h
  show (match H p with
    | some (.tup [.int x, .int y]) => (if 0 < dx then 8 - x else if dx < 0 then x else if 0 < dy then 6 - y else y).toNat
    | _ => 0) = _
  rw [h]
theorem mu_less {dx dy : Int} {a b : Int × Int} (ha : Bx a) (hb : Bx b) (e1 : b.1 - a.1 = dx) (e2 : b.2 - a.2 = dy) (n : ¬ (dx = 0 ∧ dy = 0)) : (if 0 < dx then 8 - b.1 else if dx < 0 then b.1 else if 0 < dy then 6 - b.2 else b.2).toNat < (if 0 < dx then 8 - a.1 else if dx < 0 then a.1 else if 0 < dy then 6 - a.2 else a.2).toNat := by
  obtain ⟨a1, a2, a3, a4⟩ := ha
  obtain ⟨b1, b2, b3, b4⟩ := hb
  by_cases c1 : 0 < dx
  · rw [if_pos c1, if_pos c1]; omega
  · rw [if_neg c1, if_neg c1]
    by_cases c2 : dx < 0
    · rw [if_pos c2, if_pos c2]; omega
    · rw [if_neg c2, if_neg c2]
      by_cases c3 : 0 < dy
      · rw [if_pos c3, if_pos c3]; omega
      · rw [if_neg c3, if_neg c3]; omega
theorem ok_law_long (T : Txt K mg ad fd) : FnOk P w K mg base CX0 2 (ad 11) (fd 11) ["_law_edges_here"] sp_long := by
  refine T.law_long.fn.ok sc_law_long (fun vs H Q E h => ?_) (fun cdv A outer s H vs Q E hr h => ?_)
  · obtain ⟨l, ys, es, rfl, _⟩ := h
    rfl
  obtain ⟨l, ys, es, rfl, hl, hn, he, k⟩ := h
  obtain ⟨tl, htl, hk⟩ : ∃ tl, PSs (cxOf CX0 P w K mg base ["_law_edges_here", "_law_starts", "_law_first", "_law_last", "_law_ways", "_law_back", "_law_begin", "_law_end"] "_law_long" (defScope s_law_long) (ad 11) cdv A outer s H E).nox ((defBody s_law_long).drop 2) tl ∧ ∀ (d : Addr) (kvs : List (List Key × V)) (H1 : Hp) (o1 o2 : Option V), StT H H1 d kvs 145 →
      tl { nx := fun _ H' => Q .non H', rt := Q } [some (.ref l), some (.ref d), o1, o2, none, none, none, none] H1 := by
    have qpss3 := @pss3
    have qps_set := @ps_set
    have qpe_lst := @pe_lst
    have qpa_nil := @pa_nil
    have qps_for := @ps_for
    have qpi_list := @pi_list
    have qpv := @pv
    have qpg_tupH := @pg_tupH
    have qpgs_cons := @pgs_cons
    have qpg_name := @pg_name
    have qpgs_nil := @pgs_nil
    have qpss2 := @pss2
    have qpe_tup := @pe_tup
    have qpa2 := @pa2
    have qpe_op := @pe_op
    have qpe_int := @pe_int
    have qpe_ix := @pe_ix
    have qps_if := @ps_if
    have qPWpt := @PW.pt
    have qpw_or := @pw_or
    have qpt_cmpR := @pt_cmpR
    have qpe_dget2 := @pe_dget2
    have qpw_or1 := @pw_or1
    have qpt_not := @pt_not
    have qpt_val := @pt_val
    have qpe_call := @pe_call
    have qpa3 := @pa3
    have qpss4 := @pss4
    have qps_while := @ps_while
    have qpss_one := @pss_one
    have qps_par := @ps_par
    have qps_expr := @ps_expr
    have qpe_bm := @pe_bm
    have qpa1 := @pa1
    have qpss_nil := @pss_nil
    have qps_ret := @ps_ret
    generalize @L2.PE = QE, @L2.PT = QT, @L2.PW = QW, @L2.PA = QA, @L2.PS = QS, @L2.PSs = QSs, @L2.PG = QG, @L2.PGs = QGs, @L2.PI = QI, @L2.PO = QO, @L2.PIf = QIf at qpss3 qps_set qpe_lst qpa_nil qps_for qpi_list qpv qpg_tupH qpgs_cons qpg_name qpgs_nil qpss2 qpe_tup qpa2 qpe_op qpe_int qpe_ix qps_if qPWpt qpw_or qpt_cmpR qpe_dget2 qpw_or1 qpt_not qpt_val qpe_call qpa3 qpss4 qps_while qpss_one qps_par qps_expr qpe_bm qpa1 qpss_nil qps_ret ⊢
    refine ⟨_,
    (qpss3
      (qps_set (i := 4) sc_law_long.nd rfl (Or.inl rfl) (qpe_lst qpa_nil))
      (qps_for PassesOwn.never rfl (qpi_list (qpv 0)) (qpg_tupH (n := 2) rfl (qpgs_cons (qpg_name (i := 2) sc_law_long.nd rfl (Or.inl rfl)) (qpgs_cons (qpg_name (i := 3) sc_law_long.nd rfl (Or.inl rfl)) qpgs_nil))) (qpss2
      (qps_set (i := 5) sc_law_long.nd rfl (Or.inl rfl) (qpe_tup (qpa2 (qpe_op op_sub (qpe_op op_mul qpe_int (qpe_ix ix_tupH (qpv 2) qpe_int (fun _ _ => rfl))) (qpe_ix ix_tupH (qpv 3) qpe_int (fun _ _ => rfl))) ns_BinOp (qpe_op op_sub (qpe_op op_mul qpe_int (qpe_ix ix_tupH (qpv 2) qpe_int (fun _ _ => rfl))) (qpe_ix ix_tupH (qpv 3) qpe_int (fun _ _ => rfl))) ns_BinOp)))
      (qps_if (qPWpt (qpw_or (qpt_cmpR (op_notInK (K' := K) rfl (hu64 hr)) (qpv 2) (qpe_dget2 (hu_of hr) (qpv 1) (qpv 5) (qpe_lst qpa_nil) ⟨rfl, rfl, rfl, rfl⟩) rfl) (qpw_or1 (qpt_not (qpt_val (qpe_call (ok_law_straight T) (hr.mono (by decide)) rfl T.law_straight.mg T.law_straight.fn.kp T.law_straight.bn .nil pass0 (qpa3 (qpv 1) ns_Name (qpv 5) ns_Name (qpv 2) ns_Name))))))) (qpss4
      (qps_set (i := 6) sc_law_long.nd rfl (Or.inl rfl) (qpv 2))
      (qps_set (i := 7) sc_law_long.nd rfl (Or.inl rfl) (qpv 3))
      (qps_while PassesOwn.never (qpt_val (qpe_call (ok_law_straight T) (hr.mono (by decide)) rfl T.law_straight.mg T.law_straight.fn.kp T.law_straight.bn .nil pass0 (qpa3 (qpv 1) ns_Name (qpv 6) ns_Name (qpv 7) ns_Name))) (qpss_one (qps_par (i := 6) (j := 7) rfl sc_law_long.nd rfl rfl (by decide) rfl rfl (qpa2 (qpv 7) ns_Name (qpe_tup (qpa2 (qpe_op op_sub (qpe_op op_mul qpe_int (qpe_ix ix_tupH (qpv 7) qpe_int (fun _ _ => rfl))) (qpe_ix ix_tupH (qpv 6) qpe_int (fun _ _ => rfl))) ns_BinOp (qpe_op op_sub (qpe_op op_mul qpe_int (qpe_ix ix_tupH (qpv 7) qpe_int (fun _ _ => rfl))) (qpe_ix ix_tupH (qpv 6) qpe_int (fun _ _ => rfl))) ns_BinOp)) ns_Tuple) rfl)))
      (qps_expr (qpe_bm PySem.F.plainAttrs_list PySem.F.slot_list_append PySem.F.type_list_append mt_append (qpv 4) (qpa1 (qpe_tup (qpa2 (qpv 2) ns_Name (qpv 7) ns_Name)) ns_Tuple)))) qpss_nil)))
      (qps_ret (qpv 4)))
      , fun d kvs H1 o1 o2 st => ?_⟩
    clear  qpss3 qps_set qpe_lst qpa_nil qps_for qpi_list qpv qpg_tupH qpgs_cons qpg_name qpgs_nil qpss2 qpe_tup qpa2 qpe_op qpe_int qpe_ix qps_if qPWpt qpw_or qpt_cmpR qpe_dget2 qpw_or1 qpt_not qpt_val qpe_call qpa3 qpss4 qps_while qpss_one qps_par qps_expr qpe_bm qpa1 qpss_nil qps_ret QE QT QW QA QS QSs QG QGs QI QO QIf
    simp only [tSeq, tNext, tRet, tRetN, tIfS, tAsg, gName, tDrop, tVar, tC, tOp, tUn, rI, rI0, rU, rEq, rNe, tTest, tB, tNot, tAnd, tOr, tAndV, tOrV, tNotV, tIf, tCB, tCall, tNil, tCons, tTup, tLst, gTup, gCons, gNil, L2.start, rIsi, rIxT, rIxL, cx_K, tyN_non, tyN_bl, tyN_int, tyN_str, isi_ii, isi_ib, isi_it, isi_il, isi_bi, isi_bb, isi_tt, isi_ni, isi_si, isi_ti, isi_li, isi_di, isi_ll, scal_ii, scal_bb, sz0, sz1, sz2, sz3, sz4, List.map_cons, List.map_nil, List.length_cons, List.length_nil, List.replicate, List.cons_append, List.nil_append, List.append_nil, List.getElem?_cons_zero, List.getElem?_cons_succ, List.set_cons_zero, List.set_cons_succ, Option.some.injEq, V.int.injEq, V.bl.injEq, V.ref.injEq, V.ty.injEq, List.cons.injEq, and_true, true_and, exists_eq_left, exists_eq_left', exists_and_left, exists_and_right, exists_eq, exists_eq', and_assoc, Nat.reduceAdd, Nat.reduceSub, Bool.not_true, Bool.not_false, Bool.false_eq_true, if_true, if_false, reduceIte, Nat.zero_add, decide_true, decide_false, selC, comp_K, tYes, Option.join_some, rIxTH, rIxLH, rLenH, rIsiF, at0, at1, at2, at3, at4, at5, at6, at7, at8, HO.tup.injEq, HO.lst.injEq, reduceCtorEq, false_or, or_false, tyF_non, tyF_bl, tyF_int, tyF_str, exists_const, Int.reduceAdd, Int.reduceMul, Int.reduceSub, gSub, rSetL, tSl, tPart, tNoPart, rSlH, upd_same, upd_upd, rIntB, rListH, tBM, tBM0, rAppend, rClear, tPar, gTupH]
    intro W hW
    have nW : ∀ k, valV kvs k ≠ some (.ref W) := fun k z => by
      obtain ⟨a, zs, e1, _, e3, _⟩ := st.ent k _ z
      cases e1
      rw [hW] at e3
      cases e3
    have hW0 := st.same.free hW
    have gW := same_new hW (HO.lst [])
    refine tFor_mk ?_
    simp only [iList, tSeq, tNext, tRet, tRetN, tIfS, tAsg, gName, tDrop, tVar, tC, tOp, tUn, rI, rI0, rU, rEq, rNe, tTest, tB, tNot, tAnd, tOr, tAndV, tOrV, tNotV, tIf, tCB, tCall, tNil, tCons, tTup, tLst, gTup, gCons, gNil, L2.start, rIsi, rIxT, rIxL, cx_K, tyN_non, tyN_bl, tyN_int, tyN_str, isi_ii, isi_ib, isi_it, isi_il, isi_bi, isi_bb, isi_tt, isi_ni, isi_si, isi_ti, isi_li, isi_di, isi_ll, scal_ii, scal_bb, sz0, sz1, sz2, sz3, sz4, List.map_cons, List.map_nil, List.length_cons, List.length_nil, List.replicate, List.cons_append, List.nil_append, List.append_nil, List.getElem?_cons_zero, List.getElem?_cons_succ, List.set_cons_zero, List.set_cons_succ, Option.some.injEq, V.int.injEq, V.bl.injEq, V.ref.injEq, V.ty.injEq, List.cons.injEq, and_true, true_and, exists_eq_left, exists_eq_left', exists_and_left, exists_and_right, exists_eq, exists_eq', and_assoc, Nat.reduceAdd, Nat.reduceSub, Bool.not_true, Bool.not_false, Bool.false_eq_true, if_true, if_false, reduceIte, Nat.zero_add, decide_true, decide_false, selC, comp_K, tYes, Option.join_some, rIxTH, rIxLH, rLenH, rIsiF, at0, at1, at2, at3, at4, at5, at6, at7, at8, HO.tup.injEq, HO.lst.injEq, reduceCtorEq, false_or, or_false, tyF_non, tyF_bl, tyF_int, tyF_str, exists_const, Int.reduceAdd, Int.reduceMul, Int.reduceSub, gSub, rSetL, tSl, tPart, tNoPart, rSlH, upd_same, upd_upd, rIntB, rListH, tBM, tBM0, rAppend, rClear, tPar, gTupH]
    refine ⟨⟨_, .of (gW _ _ (st.same _ _ hl))⟩, ?_⟩
    refine for_list (K := K) (a := l) (xs := ys) (fun i σ H' => StT H H' d kvs 145 ∧ ∃ (zs : List V) (ws : List E2) (o1 o2 o3 o4 o5 : Option V), σ = [some (.ref l), some (.ref d), o1, o2, some (.ref W), o3, o4, o5] ∧ H' W = some (.lst zs) ∧ zs.length ≤ i ∧ LR WyH H' zs ws) ⟨st.mono gW, [], [], o1, o2, none, none, none, rfl, upd_same, Nat.le_refl _, .nil⟩ (fun i σ H' _ iv => .of (iv.1.same _ _ hl)) ?_ ?_
    · rintro i v σ H2 hi ⟨st2, zs, ws, o1, o2, o3, o4, o5, rfl, hW2, hz, hws⟩
      obtain ⟨p, e, rfl, he', ⟨c, c2, h1, h2, h3⟩, b1, b2, ne⟩ := he.2 i v hi
      have hi' := (List.getElem?_eq_some_iff.mp hi).1
      have h1' := st2.same _ _ h1
      have h2' : H2 c = some (.tup [.int e.1.1, .int e.1.2]) := st2.same _ _ h2
      have h3' : H2 c2 = some (.tup [.int e.2.1, .int e.2.2]) := st2.same _ _ h3
      simp only [tSeq, tNext, tRet, tRetN, tIfS, tAsg, gName, tDrop, tVar, tC, tOp, tUn, rI, rI0, rU, rEq, rNe, tTest, tB, tNot, tAnd, tOr, tAndV, tOrV, tNotV, tIf, tCB, tCall, tNil, tCons, tTup, tLst, gTup, gCons, gNil, L2.start, rIsi, rIxT, rIxL, cx_K, tyN_non, tyN_bl, tyN_int, tyN_str, isi_ii, isi_ib, isi_it, isi_il, isi_bi, isi_bb, isi_tt, isi_ni, isi_si, isi_ti, isi_li, isi_di, isi_ll, scal_ii, scal_bb, sz0, sz1, sz2, sz3, sz4, List.map_cons, List.map_nil, List.length_cons, List.length_nil, List.replicate, List.cons_append, List.nil_append, List.append_nil, List.getElem?_cons_zero, List.getElem?_cons_succ, List.set_cons_zero, List.set_cons_succ, Option.some.injEq, V.int.injEq, V.bl.injEq, V.ref.injEq, V.ty.injEq, List.cons.injEq, and_true, true_and, exists_eq_left, exists_eq_left', exists_and_left, exists_and_right, exists_eq, exists_eq', and_assoc, Nat.reduceAdd, Nat.reduceSub, Bool.not_true, Bool.not_false, Bool.false_eq_true, if_true, if_false, reduceIte, Nat.zero_add, decide_true, decide_false, selC, comp_K, tYes, Option.join_some, rIxTH, rIxLH, rLenH, rIsiF, at0, at1, at2, at3, at4, at5, at6, at7, at8, HO.tup.injEq, HO.lst.injEq, reduceCtorEq, false_or, or_false, tyF_non, tyF_bl, tyF_int, tyF_str, exists_const, Int.reduceAdd, Int.reduceMul, Int.reduceSub, gSub, rSetL, tSl, tPart, tNoPart, rSlH, upd_same, upd_upd, rIntB, rListH, tBM, tBM0, rAppend, rClear, tPar, gTupH, h1', h2', h3']
      refine ⟨.inl ⟨by decide, by decide⟩, .inl ⟨by decide, by decide⟩, fun t ht => ?_⟩
      have g3 := same_new ht (HO.tup [V.int (2 * e.1.1 - e.2.1), V.int (2 * e.1.2 - e.2.2)])
      have ht3 : P2H (upd H2 t (HO.tup [V.int (2 * e.1.1 - e.2.1), V.int (2 * e.1.2 - e.2.2)])) t (onP e.2 e.1) := upd_same
      generalize upd H2 t (HO.tup [V.int (2 * e.1.1 - e.2.1), V.int (2 * e.1.2 - e.2.2)]) = H3 at *
      have st3 := st2.mono g3
      have f3 : P2H H3 c e.1 := g3 _ _ h2'
      have l3 : P2H H3 c2 e.2 := g3 _ _ h3'
      simp only [tDGet2, rNotInL, tSeq, tNext, tRet, tRetN, tIfS, tAsg, gName, tDrop, tVar, tC, tOp, tUn, rI, rI0, rU, rEq, rNe, tTest, tB, tNot, tAnd, tOr, tAndV, tOrV, tNotV, tIf, tCB, tCall, tNil, tCons, tTup, tLst, gTup, gCons, gNil, L2.start, rIsi, rIxT, rIxL, cx_K, tyN_non, tyN_bl, tyN_int, tyN_str, isi_ii, isi_ib, isi_it, isi_il, isi_bi, isi_bb, isi_tt, isi_ni, isi_si, isi_ti, isi_li, isi_di, isi_ll, scal_ii, scal_bb, sz0, sz1, sz2, sz3, sz4, List.map_cons, List.map_nil, List.length_cons, List.length_nil, List.replicate, List.cons_append, List.nil_append, List.append_nil, List.getElem?_cons_zero, List.getElem?_cons_succ, List.set_cons_zero, List.set_cons_succ, Option.some.injEq, V.int.injEq, V.bl.injEq, V.ref.injEq, V.ty.injEq, List.cons.injEq, and_true, true_and, exists_eq_left, exists_eq_left', exists_and_left, exists_and_right, exists_eq, exists_eq', and_assoc, Nat.reduceAdd, Nat.reduceSub, Bool.not_true, Bool.not_false, Bool.false_eq_true, if_true, if_false, reduceIte, Nat.zero_add, decide_true, decide_false, selC, comp_K, tYes, Option.join_some, rIxTH, rIxLH, rLenH, rIsiF, at0, at1, at2, at3, at4, at5, at6, at7, at8, HO.tup.injEq, HO.lst.injEq, reduceCtorEq, false_or, or_false, tyF_non, tyF_bl, tyF_int, tyF_str, exists_const, Int.reduceAdd, Int.reduceMul, Int.reduceSub, gSub, rSetL, tSl, tPart, tNoPart, rSlH, upd_same, upd_upd, rIntB, rListH, tBM, tBM0, rAppend, rClear, tPar, gTupH]
      refine ⟨isD_t st3.at_, fun u hu => ?_⟩
      have g4 := same_new hu (HO.lst [])
      have hu4 : upd H3 u (HO.lst []) u = some (HO.lst []) := upd_same
      generalize upd H3 u (HO.lst []) = H4 at *
      have st4 := st3.mono g4
      refine ⟨valV kvs (kP (onP e.2 e.1)), .t (k := kP (onP e.2 e.1)) st4.at_ (g4 _ _ ht3), ?_⟩
      obtain ⟨L, us, hLv, hL4, hus⟩ : ∃ L us, (valV kvs (kP (onP e.2 e.1))).getD (V.ref u) = .ref L ∧ H4 L = some (.lst us) ∧ ∀ x, x ∈ us → BxV H4 x := by
        cases ev : valV kvs (kP (onP e.2 e.1)) with
        | none => exact ⟨u, [], rfl, hu4, fun x hx => by cases hx⟩
        | some v =>
          obtain ⟨L, us, rfl, _, q3, _, q5⟩ := st4.ent _ _ ev
          exact ⟨L, us, rfl, q3, q5⟩
      obtain ⟨cs, hcs⟩ := rd_bx (K := K) us hus
      have hWW4 : ∀ {H7 : Hp}, Same H4 H7 → H7 W = some (.lst zs) := fun g => g _ _ (g4 _ _ (g3 _ _ hW2))
      refine ⟨d2 e.1, rd_2 (p2_ts _ _ _ _ (ts_same g4) f3), cs.map d2, ?_, (d2_lay e.1).1, (d2s_lay cs).1, Nat.le_trans (d2_lay e.1).2 (by decide), ite2 (fun _ => ?_) (fun _ => ?_)⟩
      · rw [hLv, RdD]
        exact ⟨L, us, rfl, .of hL4, hcs⟩
      · refine while_at (fun σ H' => Same H4 H' ∧ ∃ (pb pe : Addr) (b e' : Int × Int), σ = [some (V.ref l), some (V.ref d), some (V.ref c), some (V.ref c2), some (V.ref W), some (V.ref t), some (V.ref pb), some (V.ref pe)] ∧ P2H H' pb b ∧ P2H H' pe e' ∧ Bx e' ∧ e'.1 - b.1 = e.2.1 - e.1.1 ∧ e'.2 - b.2 = e.2.2 - e.1.2) (fun σ H' => mu (e.2.1 - e.1.1) (e.2.2 - e.1.2) H' σ) ⟨.refl _, c, c2, e.1, e.2, rfl, (p2_ts _ _ _ _ (ts_same g4) f3), (p2_ts _ _ _ _ (ts_same g4) l3), b2, rfl, rfl⟩ ?_
        rintro σ H6 ⟨g6, pb, pe, b, e', rfl, hpb, hpe, bx, hdx, hdy⟩
        have st6 := st4.mono g6
        simp only [tSeq, tNext, tRet, tRetN, tIfS, tAsg, gName, tDrop, tVar, tC, tOp, tUn, rI, rI0, rU, rEq, rNe, tTest, tB, tNot, tAnd, tOr, tAndV, tOrV, tNotV, tIf, tCB, tCall, tNil, tCons, tTup, tLst, gTup, gCons, gNil, L2.start, rIsi, rIxT, rIxL, cx_K, tyN_non, tyN_bl, tyN_int, tyN_str, isi_ii, isi_ib, isi_it, isi_il, isi_bi, isi_bb, isi_tt, isi_ni, isi_si, isi_ti, isi_li, isi_di, isi_ll, scal_ii, scal_bb, sz0, sz1, sz2, sz3, sz4, List.map_cons, List.map_nil, List.length_cons, List.length_nil, List.replicate, List.cons_append, List.nil_append, List.append_nil, List.getElem?_cons_zero, List.getElem?_cons_succ, List.set_cons_zero, List.set_cons_succ, Option.some.injEq, V.int.injEq, V.bl.injEq, V.ref.injEq, V.ty.injEq, List.cons.injEq, and_true, true_and, exists_eq_left, exists_eq_left', exists_and_left, exists_and_right, exists_eq, exists_eq', and_assoc, Nat.reduceAdd, Nat.reduceSub, Bool.not_true, Bool.not_false, Bool.false_eq_true, if_true, if_false, reduceIte, Nat.zero_add, decide_true, decide_false, selC, comp_K, tYes, Option.join_some, rIxTH, rIxLH, rLenH, rIsiF, at0, at1, at2, at3, at4, at5, at6, at7, at8, HO.tup.injEq, HO.lst.injEq, reduceCtorEq, false_or, or_false, tyF_non, tyF_bl, tyF_int, tyF_str, exists_const, Int.reduceAdd, Int.reduceMul, Int.reduceSub, gSub, rSetL, tSl, tPart, tNoPart, rSlH, upd_same, upd_upd, rIntB, rListH, tBM, tBM0, rAppend, rClear, tPar, gTupH]
        refine ⟨H, d, pb, pe, kvs, 145, b, e', rfl, st6, by decide, hpb, hpe, fun r H7 g7 hr7 => ⟨r, rfl, ite2 (fun cc => ?_) (fun cc => ?_)⟩⟩
        · have hpb7 : H7 pb = some (.tup [.int b.1, .int b.2]) := g7 _ _ hpb
          have hpe7 : H7 pe = some (.tup [.int e'.1, .int e'.2]) := g7 _ _ hpe
          have bn := hr7 cc
          refine ⟨fun σ' H' => (Same H4 H' ∧ ∃ (pb pe : Addr) (b e' : Int × Int), σ' = [some (V.ref l), some (V.ref d), some (V.ref c), some (V.ref c2), some (V.ref W), some (V.ref t), some (V.ref pb), some (V.ref pe)] ∧ P2H H' pb b ∧ P2H H' pe e' ∧ Bx e' ∧ e'.1 - b.1 = e.2.1 - e.1.1 ∧ e'.2 - b.2 = e.2.2 - e.1.2) ∧ mu (e.2.1 - e.1.1) (e.2.2 - e.1.2) H' σ' < mu (e.2.1 - e.1.1) (e.2.2 - e.1.2) H6 [some (V.ref l), some (V.ref d), some (V.ref c), some (V.ref c2), some (V.ref W), some (V.ref t), some (V.ref pb), some (V.ref pe)], fun σ' H' ⟨⟨a1, pb, pe, b, e', a2, a3, a4, a5⟩, p2⟩ => ⟨_, p2, rfl, a1, pb, pe, a2, b, a3, e', a4, a5⟩, ?_⟩
          simp only [tSeq, tNext, tRet, tRetN, tIfS, tAsg, gName, tDrop, tVar, tC, tOp, tUn, rI, rI0, rU, rEq, rNe, tTest, tB, tNot, tAnd, tOr, tAndV, tOrV, tNotV, tIf, tCB, tCall, tNil, tCons, tTup, tLst, gTup, gCons, gNil, L2.start, rIsi, rIxT, rIxL, cx_K, tyN_non, tyN_bl, tyN_int, tyN_str, isi_ii, isi_ib, isi_it, isi_il, isi_bi, isi_bb, isi_tt, isi_ni, isi_si, isi_ti, isi_li, isi_di, isi_ll, scal_ii, scal_bb, sz0, sz1, sz2, sz3, sz4, List.map_cons, List.map_nil, List.length_cons, List.length_nil, List.replicate, List.cons_append, List.nil_append, List.append_nil, List.getElem?_cons_zero, List.getElem?_cons_succ, List.set_cons_zero, List.set_cons_succ, Option.some.injEq, V.int.injEq, V.bl.injEq, V.ref.injEq, V.ty.injEq, List.cons.injEq, and_true, true_and, exists_eq_left, exists_eq_left', exists_and_left, exists_and_right, exists_eq, exists_eq', and_assoc, Nat.reduceAdd, Nat.reduceSub, Bool.not_true, Bool.not_false, Bool.false_eq_true, if_true, if_false, reduceIte, Nat.zero_add, decide_true, decide_false, selC, comp_K, tYes, Option.join_some, rIxTH, rIxLH, rLenH, rIsiF, at0, at1, at2, at3, at4, at5, at6, at7, at8, HO.tup.injEq, HO.lst.injEq, reduceCtorEq, false_or, or_false, tyF_non, tyF_bl, tyF_int, tyF_str, exists_const, Int.reduceAdd, Int.reduceMul, Int.reduceSub, gSub, rSetL, tSl, tPart, tNoPart, rSlH, upd_same, upd_upd, rIntB, rListH, tBM, tBM0, rAppend, rClear, tPar, gTupH, hpb7, hpe7]
          refine ⟨.inl ⟨by decide, by decide⟩, .inl ⟨by decide, by decide⟩, fun p hp => ?_⟩
          have n0 : ¬ (e.2.1 - e.1.1 = 0 ∧ e.2.2 - e.1.2 = 0) := fun z => ne (Prod.ext (by omega) (by omega))
          have g8 := same_new hp (HO.tup [V.int (2 * e'.1 - b.1), V.int (2 * e'.2 - b.2)])
          have hn8 : P2H (upd H7 p (HO.tup [V.int (2 * e'.1 - b.1), V.int (2 * e'.2 - b.2)])) p (onP b e') := upd_same
          have hpe8 : P2H (upd H7 p (HO.tup [V.int (2 * e'.1 - b.1), V.int (2 * e'.2 - b.2)])) pe e' := g8 _ _ hpe7
          refine ⟨(g6.trans g7).trans g8, ⟨e', hpe8, onP b e', hn8, bn, ?_, ?_⟩, ?_⟩
          · show 2 * e'.1 - b.1 - e'.1 = _
            omega
          · show 2 * e'.2 - b.2 - e'.2 = _
            omega
          · rw [mu_of hn8, mu_of hpe]
            exact mu_less bx bn (by show 2 * e'.1 - b.1 - e'.1 = _; omega) (by show 2 * e'.2 - b.2 - e'.2 = _; omega) n0
        · have g67 := g6.trans g7
          have hW7 := hWW4 g67
          have c7 : P2H H7 c e.1 := g67 _ _ (p2_ts _ _ _ _ (ts_same g4) f3)
          have pe7 : P2H H7 pe e' := g7 _ _ hpe
          have st7 := st6.mono g7
          have ws7 := hws.ts wy_ts (ts_same ((g3.trans g4).trans g67))
          refine ⟨tyV_of hW7, fun p hp => ?_⟩
          have g8 := same_new hp (HO.tup [V.ref c, V.ref pe])
          have hW8 := g8 _ _ hW7
          have st8 := st7.mono g8
          have hp8 : upd H7 p (HO.tup [V.ref c, V.ref pe]) p = some (HO.tup [V.ref c, V.ref pe]) := upd_same
          have c8 : P2H (upd H7 p (HO.tup [V.ref c, V.ref pe])) c e.1 := g8 _ _ c7
          have pe8 : P2H (upd H7 p (HO.tup [V.ref c, V.ref pe])) pe e' := g8 _ _ pe7
          have ws8 := ws7.ts wy_ts (ts_same g8)
          generalize upd H7 p (HO.tup [V.ref c, V.ref pe]) = H8 at *
          have gw : TupSame H8 (upd H8 W (HO.lst (zs ++ [V.ref p]))) := fun b xs q => by
            rw [upd_ne (fun z => by rw [z, hW8] at q; cases q)]
            exact q
          refine ⟨zs, hW8, Nat.lt_of_le_of_lt (Nat.le_trans hz (Nat.le_trans (Nat.le_of_lt hi') hn)) (by decide), st8.keep hW8 hW0 nW, ?_, _, (ws8.ts wy_ts gw).snoc (a := (e.1, e')) ⟨⟨c, pe, gw _ _ hp8, gw _ _ c8, gw _ _ pe8⟩, b1, bx⟩⟩
          rw [List.length_append]
          exact Nat.succ_le_succ hz
      · refine ⟨H, d, t, c, kvs, 145, onP e.2 e.1, e.1, rfl, st4, by decide, g4 _ _ ht3, g4 _ _ f3, fun r H5 g5 _ => ⟨r, rfl, ite2 (fun _ => ?_) (fun _ => ?_)⟩⟩
        · have st5 := st4.mono g5
          have f5 : P2H H5 c e.1 := g5 _ _ (g4 _ _ f3)
          have l5 : P2H H5 c2 e.2 := g5 _ _ (g4 _ _ l3)
          have hWW5 : ∀ {H7 : Hp}, Same H5 H7 → H7 W = some (.lst zs) := fun g => g _ _ (g5 _ _ (g4 _ _ (g3 _ _ hW2)))
          refine while_at (fun σ H' => Same H5 H' ∧ ∃ (pb pe : Addr) (b e' : Int × Int), σ = [some (V.ref l), some (V.ref d), some (V.ref c), some (V.ref c2), some (V.ref W), some (V.ref t), some (V.ref pb), some (V.ref pe)] ∧ P2H H' pb b ∧ P2H H' pe e' ∧ Bx e' ∧ e'.1 - b.1 = e.2.1 - e.1.1 ∧ e'.2 - b.2 = e.2.2 - e.1.2) (fun σ H' => mu (e.2.1 - e.1.1) (e.2.2 - e.1.2) H' σ) ⟨.refl _, c, c2, e.1, e.2, rfl, f5, l5, b2, rfl, rfl⟩ ?_
          rintro σ H6 ⟨g6, pb, pe, b, e', rfl, hpb, hpe, bx, hdx, hdy⟩
          have st6 := st5.mono g6
          simp only [tSeq, tNext, tRet, tRetN, tIfS, tAsg, gName, tDrop, tVar, tC, tOp, tUn, rI, rI0, rU, rEq, rNe, tTest, tB, tNot, tAnd, tOr, tAndV, tOrV, tNotV, tIf, tCB, tCall, tNil, tCons, tTup, tLst, gTup, gCons, gNil, L2.start, rIsi, rIxT, rIxL, cx_K, tyN_non, tyN_bl, tyN_int, tyN_str, isi_ii, isi_ib, isi_it, isi_il, isi_bi, isi_bb, isi_tt, isi_ni, isi_si, isi_ti, isi_li, isi_di, isi_ll, scal_ii, scal_bb, sz0, sz1, sz2, sz3, sz4, List.map_cons, List.map_nil, List.length_cons, List.length_nil, List.replicate, List.cons_append, List.nil_append, List.append_nil, List.getElem?_cons_zero, List.getElem?_cons_succ, List.set_cons_zero, List.set_cons_succ, Option.some.injEq, V.int.injEq, V.bl.injEq, V.ref.injEq, V.ty.injEq, List.cons.injEq, and_true, true_and, exists_eq_left, exists_eq_left', exists_and_left, exists_and_right, exists_eq, exists_eq', and_assoc, Nat.reduceAdd, Nat.reduceSub, Bool.not_true, Bool.not_false, Bool.false_eq_true, if_true, if_false, reduceIte, Nat.zero_add, decide_true, decide_false, selC, comp_K, tYes, Option.join_some, rIxTH, rIxLH, rLenH, rIsiF, at0, at1, at2, at3, at4, at5, at6, at7, at8, HO.tup.injEq, HO.lst.injEq, reduceCtorEq, false_or, or_false, tyF_non, tyF_bl, tyF_int, tyF_str, exists_const, Int.reduceAdd, Int.reduceMul, Int.reduceSub, gSub, rSetL, tSl, tPart, tNoPart, rSlH, upd_same, upd_upd, rIntB, rListH, tBM, tBM0, rAppend, rClear, tPar, gTupH]
          refine ⟨H, d, pb, pe, kvs, 145, b, e', rfl, st6, by decide, hpb, hpe, fun r H7 g7 hr7 => ⟨r, rfl, ite2 (fun cc => ?_) (fun cc => ?_)⟩⟩
          · have hpb7 : H7 pb = some (.tup [.int b.1, .int b.2]) := g7 _ _ hpb
            have hpe7 : H7 pe = some (.tup [.int e'.1, .int e'.2]) := g7 _ _ hpe
            have bn := hr7 cc
            refine ⟨fun σ' H' => (Same H5 H' ∧ ∃ (pb pe : Addr) (b e' : Int × Int), σ' = [some (V.ref l), some (V.ref d), some (V.ref c), some (V.ref c2), some (V.ref W), some (V.ref t), some (V.ref pb), some (V.ref pe)] ∧ P2H H' pb b ∧ P2H H' pe e' ∧ Bx e' ∧ e'.1 - b.1 = e.2.1 - e.1.1 ∧ e'.2 - b.2 = e.2.2 - e.1.2) ∧ mu (e.2.1 - e.1.1) (e.2.2 - e.1.2) H' σ' < mu (e.2.1 - e.1.1) (e.2.2 - e.1.2) H6 [some (V.ref l), some (V.ref d), some (V.ref c), some (V.ref c2), some (V.ref W), some (V.ref t), some (V.ref pb), some (V.ref pe)], fun σ' H' ⟨⟨a1, pb, pe, b, e', a2, a3, a4, a5⟩, p2⟩ => ⟨_, p2, rfl, a1, pb, pe, a2, b, a3, e', a4, a5⟩, ?_⟩
            simp only [tSeq, tNext, tRet, tRetN, tIfS, tAsg, gName, tDrop, tVar, tC, tOp, tUn, rI, rI0, rU, rEq, rNe, tTest, tB, tNot, tAnd, tOr, tAndV, tOrV, tNotV, tIf, tCB, tCall, tNil, tCons, tTup, tLst, gTup, gCons, gNil, L2.start, rIsi, rIxT, rIxL, cx_K, tyN_non, tyN_bl, tyN_int, tyN_str, isi_ii, isi_ib, isi_it, isi_il, isi_bi, isi_bb, isi_tt, isi_ni, isi_si, isi_ti, isi_li, isi_di, isi_ll, scal_ii, scal_bb, sz0, sz1, sz2, sz3, sz4, List.map_cons, List.map_nil, List.length_cons, List.length_nil, List.replicate, List.cons_append, List.nil_append, List.append_nil, List.getElem?_cons_zero, List.getElem?_cons_succ, List.set_cons_zero, List.set_cons_succ, Option.some.injEq, V.int.injEq, V.bl.injEq, V.ref.injEq, V.ty.injEq, List.cons.injEq, and_true, true_and, exists_eq_left, exists_eq_left', exists_and_left, exists_and_right, exists_eq, exists_eq', and_assoc, Nat.reduceAdd, Nat.reduceSub, Bool.not_true, Bool.not_false, Bool.false_eq_true, if_true, if_false, reduceIte, Nat.zero_add, decide_true, decide_false, selC, comp_K, tYes, Option.join_some, rIxTH, rIxLH, rLenH, rIsiF, at0, at1, at2, at3, at4, at5, at6, at7, at8, HO.tup.injEq, HO.lst.injEq, reduceCtorEq, false_or, or_false, tyF_non, tyF_bl, tyF_int, tyF_str, exists_const, Int.reduceAdd, Int.reduceMul, Int.reduceSub, gSub, rSetL, tSl, tPart, tNoPart, rSlH, upd_same, upd_upd, rIntB, rListH, tBM, tBM0, rAppend, rClear, tPar, gTupH, hpb7, hpe7]
            refine ⟨.inl ⟨by decide, by decide⟩, .inl ⟨by decide, by decide⟩, fun p hp => ?_⟩
            have n0 : ¬ (e.2.1 - e.1.1 = 0 ∧ e.2.2 - e.1.2 = 0) := fun z => ne (Prod.ext (by omega) (by omega))
            have g8 := same_new hp (HO.tup [V.int (2 * e'.1 - b.1), V.int (2 * e'.2 - b.2)])
            have hn8 : P2H (upd H7 p (HO.tup [V.int (2 * e'.1 - b.1), V.int (2 * e'.2 - b.2)])) p (onP b e') := upd_same
            have hpe8 : P2H (upd H7 p (HO.tup [V.int (2 * e'.1 - b.1), V.int (2 * e'.2 - b.2)])) pe e' := g8 _ _ hpe7
            refine ⟨(g6.trans g7).trans g8, ⟨e', hpe8, onP b e', hn8, bn, ?_, ?_⟩, ?_⟩
            · show 2 * e'.1 - b.1 - e'.1 = _
              omega
            · show 2 * e'.2 - b.2 - e'.2 = _
              omega
            · rw [mu_of hn8, mu_of hpe]
              exact mu_less bx bn (by show 2 * e'.1 - b.1 - e'.1 = _; omega) (by show 2 * e'.2 - b.2 - e'.2 = _; omega) n0
          · have g67 := g6.trans g7
            have hW7 := hWW5 g67
            have c7 : P2H H7 c e.1 := g67 _ _ f5
            have pe7 : P2H H7 pe e' := g7 _ _ hpe
            have st7 := st6.mono g7
            have ws7 := hws.ts wy_ts (ts_same (((g3.trans g4).trans g5).trans g67))
            refine ⟨tyV_of hW7, fun p hp => ?_⟩
            have g8 := same_new hp (HO.tup [V.ref c, V.ref pe])
            have hW8 := g8 _ _ hW7
            have st8 := st7.mono g8
            have hp8 : upd H7 p (HO.tup [V.ref c, V.ref pe]) p = some (HO.tup [V.ref c, V.ref pe]) := upd_same
            have c8 : P2H (upd H7 p (HO.tup [V.ref c, V.ref pe])) c e.1 := g8 _ _ c7
            have pe8 : P2H (upd H7 p (HO.tup [V.ref c, V.ref pe])) pe e' := g8 _ _ pe7
            have ws8 := ws7.ts wy_ts (ts_same g8)
            generalize upd H7 p (HO.tup [V.ref c, V.ref pe]) = H8 at *
            have gw : TupSame H8 (upd H8 W (HO.lst (zs ++ [V.ref p]))) := fun b xs q => by
              rw [upd_ne (fun z => by rw [z, hW8] at q; cases q)]
              exact q
            refine ⟨zs, hW8, Nat.lt_of_le_of_lt (Nat.le_trans hz (Nat.le_trans (Nat.le_of_lt hi') hn)) (by decide), st8.keep hW8 hW0 nW, ?_, _, (ws8.ts wy_ts gw).snoc (a := (e.1, e')) ⟨⟨c, pe, gw _ _ hp8, gw _ _ c8, gw _ _ pe8⟩, b1, bx⟩⟩
            rw [List.length_append]
            exact Nat.succ_le_succ hz
        · exact ⟨st4.mono g5, zs, hWW4 g5, by omega, ws, hws.ts wy_ts (ts_same ((g3.trans g4).trans g5))⟩
    · rintro σ H2 ⟨st2, zs, ws, o1, o2, o3, o4, o5, rfl, hW2, hz, hws⟩
      simp only [tSeq, tNext, tRet, tRetN, tIfS, tAsg, gName, tDrop, tVar, tC, tOp, tUn, rI, rI0, rU, rEq, rNe, tTest, tB, tNot, tAnd, tOr, tAndV, tOrV, tNotV, tIf, tCB, tCall, tNil, tCons, tTup, tLst, gTup, gCons, gNil, L2.start, rIsi, rIxT, rIxL, cx_K, tyN_non, tyN_bl, tyN_int, tyN_str, isi_ii, isi_ib, isi_it, isi_il, isi_bi, isi_bb, isi_tt, isi_ni, isi_si, isi_ti, isi_li, isi_di, isi_ll, scal_ii, scal_bb, sz0, sz1, sz2, sz3, sz4, List.map_cons, List.map_nil, List.length_cons, List.length_nil, List.replicate, List.cons_append, List.nil_append, List.append_nil, List.getElem?_cons_zero, List.getElem?_cons_succ, List.set_cons_zero, List.set_cons_succ, Option.some.injEq, V.int.injEq, V.bl.injEq, V.ref.injEq, V.ty.injEq, List.cons.injEq, and_true, true_and, exists_eq_left, exists_eq_left', exists_and_left, exists_and_right, exists_eq, exists_eq', and_assoc, Nat.reduceAdd, Nat.reduceSub, Bool.not_true, Bool.not_false, Bool.false_eq_true, if_true, if_false, reduceIte, Nat.zero_add, decide_true, decide_false, selC, comp_K, tYes, Option.join_some, rIxTH, rIxLH, rLenH, rIsiF, at0, at1, at2, at3, at4, at5, at6, at7, at8, HO.tup.injEq, HO.lst.injEq, reduceCtorEq, false_or, or_false, tyF_non, tyF_bl, tyF_int, tyF_str, exists_const, Int.reduceAdd, Int.reduceMul, Int.reduceSub, gSub, rSetL, tSl, tPart, tNoPart, rSlH, upd_same, upd_upd, rIntB, rListH, tBM, tBM0, rAppend, rClear, tPar, gTupH]
      exact k W zs ws H2 hW0 st2.same hW2 (by omega) hws
  have qpss_cons := @pss_cons
  have qps_set := @ps_set
  have qpe_dnewT := @pe_dnewT
  have qps_for := @ps_for
  have qpi_list := @pi_list
  have qpv := @pv
  have qpg_tupH := @pg_tupH
  have qpgs_cons := @pgs_cons
  have qpg_name := @pg_name
  have qpgs_nil := @pgs_nil
  have qpss_one := @pss_one
  have qps_expr := @ps_expr
  have qpe_bm := @pe_bm
  have qpe_dsd := @pe_dsd
  have qpe_lst := @pe_lst
  have qpa_nil := @pa_nil
  have qpa1 := @pa1
  generalize @L2.PE = QE, @L2.PT = QT, @L2.PW = QW, @L2.PA = QA, @L2.PS = QS, @L2.PSs = QSs, @L2.PG = QG, @L2.PGs = QGs, @L2.PI = QI, @L2.PO = QO, @L2.PIf = QIf at qpss_cons qps_set qpe_dnewT qps_for qpi_list qpv qpg_tupH qpgs_cons qpg_name qpgs_nil qpss_one qps_expr qpe_bm qpe_dsd qpe_lst qpa_nil qpa1 htl ⊢
  refine ⟨_,
    (qpss_cons (qps_set (i := 1) sc_law_long.nd rfl (Or.inl rfl) qpe_dnewT)
      (qpss_cons (qps_for PassesOwn.never rfl (qpi_list (qpv 0)) (qpg_tupH (n := 2) rfl (qpgs_cons (qpg_name (i := 2) sc_law_long.nd rfl (Or.inl rfl)) (qpgs_cons (qpg_name (i := 3) sc_law_long.nd rfl (Or.inl rfl)) qpgs_nil))) (qpss_one (qps_expr (qpe_bm PySem.F.plainAttrs_list PySem.F.slot_list_append PySem.F.type_list_append mt_append (qpe_dsd (hu_of hr) (qpv 1) (qpv 2) (qpe_lst qpa_nil) ⟨rfl, rfl, rfl, rfl⟩) (qpa1 (qpv 3) ns_Name)))))
      htl))
    , ?_⟩
  clear htl qpss_cons qps_set qpe_dnewT qps_for qpi_list qpv qpg_tupH qpgs_cons qpg_name qpgs_nil qpss_one qps_expr qpe_bm qpe_dsd qpe_lst qpa_nil qpa1 QE QT QW QA QS QSs QG QGs QI QO QIf
  simp only [tDNewT, tSeq, tNext, tRet, tRetN, tIfS, tAsg, gName, tDrop, tVar, tC, tOp, tUn, rI, rI0, rU, rEq, rNe, tTest, tB, tNot, tAnd, tOr, tAndV, tOrV, tNotV, tIf, tCB, tCall, tNil, tCons, tTup, tLst, gTup, gCons, gNil, L2.start, rIsi, rIxT, rIxL, cx_K, tyN_non, tyN_bl, tyN_int, tyN_str, isi_ii, isi_ib, isi_it, isi_il, isi_bi, isi_bb, isi_tt, isi_ni, isi_si, isi_ti, isi_li, isi_di, isi_ll, scal_ii, scal_bb, sz0, sz1, sz2, sz3, sz4, List.map_cons, List.map_nil, List.length_cons, List.length_nil, List.replicate, List.cons_append, List.nil_append, List.append_nil, List.getElem?_cons_zero, List.getElem?_cons_succ, List.set_cons_zero, List.set_cons_succ, Option.some.injEq, V.int.injEq, V.bl.injEq, V.ref.injEq, V.ty.injEq, List.cons.injEq, and_true, true_and, exists_eq_left, exists_eq_left', exists_and_left, exists_and_right, exists_eq, exists_eq', and_assoc, Nat.reduceAdd, Nat.reduceSub, Bool.not_true, Bool.not_false, Bool.false_eq_true, if_true, if_false, reduceIte, Nat.zero_add, decide_true, decide_false, selC, comp_K, tYes, Option.join_some, rIxTH, rIxLH, rLenH, rIsiF, at0, at1, at2, at3, at4, at5, at6, at7, at8, HO.tup.injEq, HO.lst.injEq, reduceCtorEq, false_or, or_false, tyF_non, tyF_bl, tyF_int, tyF_str, exists_const, Int.reduceAdd, Int.reduceMul, Int.reduceSub, gSub, rSetL, tSl, tPart, tNoPart, rSlH, upd_same, upd_upd, rIntB, rListH, tBM, tBM0, rAppend, rClear, tPar, gTupH]
  intro d hd
  have g1 := same_new hd (HO.dT [])
  have st0 : StT H (upd H d (HO.dT [])) d [] 0 := ⟨g1, hd, upd_same, Nat.le_refl _, fun k v e => by cases e⟩
  refine tFor_mk ?_
  simp only [iList, tSeq, tNext, tRet, tRetN, tIfS, tAsg, gName, tDrop, tVar, tC, tOp, tUn, rI, rI0, rU, rEq, rNe, tTest, tB, tNot, tAnd, tOr, tAndV, tOrV, tNotV, tIf, tCB, tCall, tNil, tCons, tTup, tLst, gTup, gCons, gNil, L2.start, rIsi, rIxT, rIxL, cx_K, tyN_non, tyN_bl, tyN_int, tyN_str, isi_ii, isi_ib, isi_it, isi_il, isi_bi, isi_bb, isi_tt, isi_ni, isi_si, isi_ti, isi_li, isi_di, isi_ll, scal_ii, scal_bb, sz0, sz1, sz2, sz3, sz4, List.map_cons, List.map_nil, List.length_cons, List.length_nil, List.replicate, List.cons_append, List.nil_append, List.append_nil, List.getElem?_cons_zero, List.getElem?_cons_succ, List.set_cons_zero, List.set_cons_succ, Option.some.injEq, V.int.injEq, V.bl.injEq, V.ref.injEq, V.ty.injEq, List.cons.injEq, and_true, true_and, exists_eq_left, exists_eq_left', exists_and_left, exists_and_right, exists_eq, exists_eq', and_assoc, Nat.reduceAdd, Nat.reduceSub, Bool.not_true, Bool.not_false, Bool.false_eq_true, if_true, if_false, reduceIte, Nat.zero_add, decide_true, decide_false, selC, comp_K, tYes, Option.join_some, rIxTH, rIxLH, rLenH, rIsiF, at0, at1, at2, at3, at4, at5, at6, at7, at8, HO.tup.injEq, HO.lst.injEq, reduceCtorEq, false_or, or_false, tyF_non, tyF_bl, tyF_int, tyF_str, exists_const, Int.reduceAdd, Int.reduceMul, Int.reduceSub, gSub, rSetL, tSl, tPart, tNoPart, rSlH, upd_same, upd_upd, rIntB, rListH, tBM, tBM0, rAppend, rClear, tPar, gTupH]
  refine ⟨⟨_, .of (g1 _ _ hl)⟩, ?_⟩
  refine for_list (K := K) (a := l) (xs := ys) (fun i σ H' => ∃ (kvs : List (List Key × V)) (o1 o2 : Option V), σ = [some (.ref l), some (.ref d), o1, o2, none, none, none, none] ∧ StT H H' d kvs i) ⟨[], none, none, rfl, st0⟩ (fun i σ H' _ iv => by
    obtain ⟨kvs, o1, o2, _, h⟩ := iv
    exact .of (h.same _ _ hl)) ?_ ?_
  · rintro i v σ H2 hi ⟨kvs, o1, o2, rfl, st⟩
    obtain ⟨p, e, rfl, he', ⟨c, d2', h1, h2, h3⟩, b1, b2, ne⟩ := he.2 i v hi
    have hi' := (List.getElem?_eq_some_iff.mp hi).1
    have h1' := st.same _ _ h1
    have h2' : P2H H2 c e.1 := st.same _ _ h2
    have h3' : P2H H2 d2' e.2 := st.same _ _ h3
    simp only [tSeq, tNext, tRet, tRetN, tIfS, tAsg, gName, tDrop, tVar, tC, tOp, tUn, rI, rI0, rU, rEq, rNe, tTest, tB, tNot, tAnd, tOr, tAndV, tOrV, tNotV, tIf, tCB, tCall, tNil, tCons, tTup, tLst, gTup, gCons, gNil, L2.start, rIsi, rIxT, rIxL, cx_K, tyN_non, tyN_bl, tyN_int, tyN_str, isi_ii, isi_ib, isi_it, isi_il, isi_bi, isi_bb, isi_tt, isi_ni, isi_si, isi_ti, isi_li, isi_di, isi_ll, scal_ii, scal_bb, sz0, sz1, sz2, sz3, sz4, List.map_cons, List.map_nil, List.length_cons, List.length_nil, List.replicate, List.cons_append, List.nil_append, List.append_nil, List.getElem?_cons_zero, List.getElem?_cons_succ, List.set_cons_zero, List.set_cons_succ, Option.some.injEq, V.int.injEq, V.bl.injEq, V.ref.injEq, V.ty.injEq, List.cons.injEq, and_true, true_and, exists_eq_left, exists_eq_left', exists_and_left, exists_and_right, exists_eq, exists_eq', and_assoc, Nat.reduceAdd, Nat.reduceSub, Bool.not_true, Bool.not_false, Bool.false_eq_true, if_true, if_false, reduceIte, Nat.zero_add, decide_true, decide_false, selC, comp_K, tYes, Option.join_some, rIxTH, rIxLH, rLenH, rIsiF, at0, at1, at2, at3, at4, at5, at6, at7, at8, HO.tup.injEq, HO.lst.injEq, reduceCtorEq, false_or, or_false, tyF_non, tyF_bl, tyF_int, tyF_str, exists_const, Int.reduceAdd, Int.reduceMul, Int.reduceSub, gSub, rSetL, tSl, tPart, tNoPart, rSlH, upd_same, upd_upd, rIntB, rListH, tBM, tBM0, rAppend, rClear, tPar, gTupH, tDSd, h1']
    refine ⟨isD_t st.at_, fun t ht => st.app (by omega) h2' ⟨d2', e.2, rfl, h3', b2⟩ ht fun l1 H4 zs kvs' h4 z4 st4 => ⟨tyV_of h4, l1, rfl, zs, h4, z4, kvs', st4⟩⟩
  · rintro σ H2 ⟨kvs, o1, o2, rfl, st⟩
    exact hk d kvs H2 o1 o2 ⟨st.same, st.new, st.at_, by have := st.len; omega, fun k v e => by
      obtain ⟨a, zs, e1, e2, e3, e4, e5⟩ := st.ent k v e
      exact ⟨a, zs, e1, e2, e3, by omega, e5⟩⟩
structure Fr where
  (p q r s t u w : Int)
def sm (x : Int) : Prop := -100 ≤ x ∧ x ≤ 100
def bg (x : Int) : Prop := -2000000 ≤ x ∧ x ≤ 2000000
def FrB (f : Fr) : Prop := sm f.p ∧ sm f.q ∧ sm f.r ∧ sm f.s ∧ bg f.t ∧ bg f.u ∧ 1 ≤ f.w ∧ f.w ≤ 2000000
def FmH (H : Hp) (l : Addr) (f : Fr) : Prop := ∃ xs, H l = some (.lst xs) ∧ atI xs 0 = some (.int f.p) ∧ atI xs 1 = some (.int f.q) ∧ atI xs 2 = some (.int f.r) ∧ atI xs 3 = some (.int f.s) ∧ atI xs 4 = some (.int f.t) ∧ atI xs 5 = some (.int f.u) ∧ atI xs 6 = some (.int f.w) ∧ FrB f
theorem FmH.same {H H' : Hp} {l : Addr} {f : Fr} (h : FmH H l f) (g : Same H H') : FmH H' l f := by
  obtain ⟨xs, h1, h2⟩ := h
  exact ⟨xs, g _ _ h1, h2⟩
theorem fr_mul {q r : Int} (q0 : -3 ≤ q) (q1 : q ≤ 3) (r0 : -3 ≤ r) (r1 : r ≤ 3) : -9 ≤ q * r ∧ q * r ≤ 9 := by
  rcases (by omega : q = -3 ∨ q = -2 ∨ q = -1 ∨ q = 0 ∨ q = 1 ∨ q = 2 ∨ q = 3) with e | e | e | e | e | e | e <;> subst e <;> omega
theorem fr_div {m p : Int} (h0 : -9 ≤ m) (h1 : m ≤ 9) (p1 : 1 ≤ p) (p4 : p ≤ 4) : -9 ≤ m.fdiv p ∧ m.fdiv p ≤ 9 := by
  rw [Int.fdiv_eq_ediv_of_nonneg _ (by omega)]
  rcases (by omega : p = 1 ∨ p = 2 ∨ p = 3 ∨ p = 4) with e | e | e | e <;> subst e <;> omega
theorem sm_mul {a b : Int} (h : sm a) (b0 : 0 ≤ b) (b1 : b ≤ 8) : -800 ≤ a * b ∧ a * b ≤ 800 := by
  obtain ⟨h0, h1⟩ := h
  rcases (by omega : b = 0 ∨ b = 1 ∨ b = 2 ∨ b = 3 ∨ b = 4 ∨ b = 5 ∨ b = 6 ∨ b = 7 ∨ b = 8) with e | e | e | e | e | e | e | e | e <;> subst e <;> omega
def sp_frame (K : PySem.W.Frag) : Sp := fun vs H Q _ => ∃ (a : Addr) (ns : List Int), vs = [.ref a] ∧ SqL K H a (ns.map V.int) ∧ ∀ D f H', H D = none → Same H H' → FmH H' D f → Q (.ref D) H'
theorem ok_law_frame (T : Txt K mg ad fd) : FnOk P w K mg base CX0 2 (ad 12) (fd 12) ["_law_script"] (sp_frame K) := by
  refine T.law_frame.fn.ok sc_law_frame (fun vs H Q E h => ?_) (fun cdv A outer s H vs Q E hr h => ?_)
  · obtain ⟨a, ns, rfl, _⟩ := h
    rfl
  obtain ⟨a, ns, rfl, hS, k⟩ := h
  have qpss8 := @pss8
  have qps_set := @ps_set
  have qpe_call := @pe_call
  have qpa2 := @pa2
  have qpv := @pv
  have qpe_int := @pe_int
  have qpe_op := @pe_op
  have qps_if := @ps_if
  have qpt_cmpR := @pt_cmpR
  have qpss_one := @pss_one
  have qpss_nil := @pss_nil
  have qps_ret := @ps_ret
  have qpe_lst := @pe_lst
  have qpa7 := @pa7
  generalize @L2.PE = QE, @L2.PT = QT, @L2.PW = QW, @L2.PA = QA, @L2.PS = QS, @L2.PSs = QSs, @L2.PG = QG, @L2.PGs = QGs, @L2.PI = QI, @L2.PO = QO, @L2.PIf = QIf at qpss8 qps_set qpe_call qpa2 qpv qpe_int qpe_op qps_if qpt_cmpR qpss_one qpss_nil qps_ret qpe_lst qpa7 ⊢
  refine ⟨_,
    (qpss8
      (qps_set (i := 1) sc_law_frame.nd rfl (Or.inl rfl) (qpe_call (ok_law_cell T) (hr.mono (by decide)) rfl T.law_cell.mg T.law_cell.fn.kp T.law_cell.bn .nil pass0 (qpa2 (qpv 0) ns_Name qpe_int ns_Constant)))
      (qps_set (i := 2) sc_law_frame.nd rfl (Or.inl rfl) (qpe_op op_add qpe_int (qpe_op op_mod (qpv 1) qpe_int)))
      (qps_set (i := 3) sc_law_frame.nd rfl (Or.inl rfl) (qpe_op op_sub (qpe_op op_mod (qpe_op op_fdiv (qpv 1) qpe_int) qpe_int) qpe_int))
      (qps_set (i := 4) sc_law_frame.nd rfl (Or.inl rfl) (qpe_op op_sub (qpe_op op_mod (qpe_op op_fdiv (qpv 1) qpe_int) qpe_int) qpe_int))
      (qps_set (i := 5) sc_law_frame.nd rfl (Or.inl rfl) (qpe_call (ok_law_cell T) (hr.mono (by decide)) rfl T.law_cell.mg T.law_cell.fn.kp T.law_cell.bn .nil pass0 (qpa2 (qpv 0) ns_Name qpe_int ns_Constant)))
      (qps_set (i := 6) sc_law_frame.nd rfl (Or.inl rfl) (qpe_op op_add qpe_int (qpe_op op_mod (qpe_call (ok_law_cell T) (hr.mono (by decide)) rfl T.law_cell.mg T.law_cell.fn.kp T.law_cell.bn .nil pass0 (qpa2 (qpv 0) ns_Name qpe_int ns_Constant)) qpe_int)))
      (qps_if (qpt_cmpR op_eq (qpe_op op_mod (qpe_op op_fdiv (qpe_call (ok_law_cell T) (hr.mono (by decide)) rfl T.law_cell.mg T.law_cell.fn.kp T.law_cell.bn .nil pass0 (qpa2 (qpv 0) ns_Name qpe_int ns_Constant)) qpe_int) qpe_int) qpe_int (nomark _)) (qpss_one (qps_set (i := 6) sc_law_frame.nd rfl (Or.inl rfl) (qpe_op op_add qpe_int (qpe_op op_mod (qpe_call (ok_law_cell T) (hr.mono (by decide)) rfl T.law_cell.mg T.law_cell.fn.kp T.law_cell.bn .nil pass0 (qpa2 (qpv 0) ns_Name qpe_int ns_Constant)) qpe_int)))) qpss_nil)
      (qps_ret (qpe_lst (qpa7 (qpv 2) ns_Name (qpv 3) ns_Name (qpv 4) ns_Name (qpe_op op_add (qpe_op op_add (qpe_op op_fdivB (qpe_op op_mulB (qpv 3) (qpv 4)) (qpv 2)) qpe_int) (qpe_op op_mod (qpe_op op_fdiv (qpv 1) qpe_int) qpe_int)) ns_BinOp (qpe_op op_sub (qpe_op op_mod (qpv 5) qpe_int) qpe_int) ns_BinOp (qpe_op op_sub (qpe_op op_mod (qpe_op op_fdiv (qpv 5) qpe_int) qpe_int) qpe_int) ns_BinOp (qpv 6) ns_Name))))
    , ?_⟩
  clear  qpss8 qps_set qpe_call qpa2 qpv qpe_int qpe_op qps_if qpt_cmpR qpss_one qpss_nil qps_ret qpe_lst qpa7 QE QT QW QA QS QSs QG QGs QI QO QIf
  simp only [tSeq, tNext, tRet, tRetN, tIfS, tAsg, gName, tDrop, tVar, tC, tOp, tUn, rI, rI0, rU, rEq, rNe, tTest, tB, tNot, tAnd, tOr, tAndV, tOrV, tNotV, tIf, tCB, tCall, tNil, tCons, tTup, tLst, gTup, gCons, gNil, L2.start, rIsi, rIxT, rIxL, cx_K, tyN_non, tyN_bl, tyN_int, tyN_str, isi_ii, isi_ib, isi_it, isi_il, isi_bi, isi_bb, isi_tt, isi_ni, isi_si, isi_ti, isi_li, isi_di, isi_ll, scal_ii, scal_bb, sz0, sz1, sz2, sz3, sz4, List.map_cons, List.map_nil, List.length_cons, List.length_nil, List.replicate, List.cons_append, List.nil_append, List.append_nil, List.getElem?_cons_zero, List.getElem?_cons_succ, List.set_cons_zero, List.set_cons_succ, Option.some.injEq, V.int.injEq, V.bl.injEq, V.ref.injEq, V.ty.injEq, List.cons.injEq, and_true, true_and, exists_eq_left, exists_eq_left', exists_and_left, exists_and_right, exists_eq, exists_eq', and_assoc, Nat.reduceAdd, Nat.reduceSub, Bool.not_true, Bool.not_false, Bool.false_eq_true, if_true, if_false, reduceIte, Nat.zero_add, decide_true, decide_false, selC, comp_K, tYes, Option.join_some, rIxTH, rIxLH, rLenH, rIsiF, at0, at1, at2, at3, at4, at5, at6, at7, at8, HO.tup.injEq, HO.lst.injEq, reduceCtorEq, false_or, or_false, tyF_non, tyF_bl, tyF_int, tyF_str, exists_const, Int.reduceAdd, Int.reduceMul, Int.reduceSub, gSub, rSetL, tSl, tPart, tNoPart, rSlH, upd_same, upd_upd, rIntB, rListH, tBM, tBM0, rAppend, rClear, tPar, gTupH]
  have e8 : (2 : Nat) ^ 8 = 256 := rfl
  refine ⟨a, ns, 2, rfl, hS, by decide, by decide, fun v => ?_⟩
  have p1 : 1 ≤ 1 + v % 4 ∧ 1 + v % 4 ≤ 4 := by omega
  have q1 : -3 ≤ v / 4 % 7 - 3 ∧ v / 4 % 7 - 3 ≤ 3 := by omega
  have r1 : -3 ≤ v / 28 % 7 - 3 ∧ v / 28 % 7 - 3 ≤ 3 := by omega
  have c1 : CBig (v / 4 % 7 - 3) (v / 28 % 7 - 3) := cbig (m := 8) (n := 8) (by omega) (by omega)
  have c2 : CDivB ((v / 4 % 7 - 3) * (v / 28 % 7 - 3)) (1 + v % 4) := cdivb (by omega) (n := 8) (by omega)
  have s1 := fr_mul q1.1 q1.2 r1.1 r1.2
  have s2 := fr_div s1.1 s1.2 p1.1 p1.2
  have fin : ∀ (v2 w : Int) (D : Addr), H D = none → 1 ≤ w → w ≤ 2000000 → Q (.ref D) (upd H D (HO.lst [V.int (1 + v % 4), V.int (v / 4 % 7 - 3), V.int (v / 28 % 7 - 3), V.int (((v / 4 % 7 - 3) * (v / 28 % 7 - 3)).fdiv (1 + v % 4) + 1 + v / 196 % 3), V.int (v2 % 2000003 - 1000001), V.int (v2 / 7 % 31 - 15), V.int w])) := fun v2 w D hD w1 w2 =>
    k D ⟨_, _, _, _, _, _, w⟩ _ hD (same_new hD _) ⟨_, upd_same, rfl, rfl, rfl, rfl, rfl, rfl, rfl, ⟨by show _ ≤ 1 + v % 4; omega, by show 1 + v % 4 ≤ _; omega⟩, ⟨by show _ ≤ v / 4 % 7 - 3; omega, by show v / 4 % 7 - 3 ≤ _; omega⟩, ⟨by show _ ≤ v / 28 % 7 - 3; omega, by show v / 28 % 7 - 3 ≤ _; omega⟩, ⟨by show _ ≤ ((v / 4 % 7 - 3) * (v / 28 % 7 - 3)).fdiv (1 + v % 4) + 1 + v / 196 % 3; omega, by show ((v / 4 % 7 - 3) * (v / 28 % 7 - 3)).fdiv (1 + v % 4) + 1 + v / 196 % 3 ≤ _; omega⟩, ⟨by show _ ≤ v2 % 2000003 - 1000001; omega, by show v2 % 2000003 - 1000001 ≤ _; omega⟩, ⟨by show _ ≤ v2 / 7 % 31 - 15; omega, by show v2 / 7 % 31 - 15 ≤ _; omega⟩, w1, w2⟩
  refine ⟨v, rfl, by decide, v, rfl, ⟨by decide, by decide⟩, by decide, v, rfl, ⟨by decide, by decide⟩, by decide, a, ns, 3, rfl, hS, by decide, by decide, fun v2 => ?_⟩
  refine ⟨a, ns, 4, rfl, hS, by decide, by decide, fun v3 => ⟨v3, rfl, by decide, a, ns, 4, rfl, hS, by decide, by decide, fun v4 => ⟨v4, rfl, ⟨by decide, by decide⟩, by decide, ite2 (fun _ => ?_) (fun _ => ?_)⟩⟩⟩
  · exact ⟨a, ns, 4, rfl, hS, by decide, by decide, fun v5 => ⟨v5, rfl, by decide, c1, c2, v, rfl, ⟨by decide, by decide⟩, by decide, v2, rfl, by decide, v2, rfl, ⟨by decide, by decide⟩, by decide, by decide, fun D hD => fin v2 _ D hD (by omega) (by omega)⟩⟩
  · exact ⟨c1, c2, v, rfl, ⟨by decide, by decide⟩, by decide, v2, rfl, by decide, v2, rfl, ⟨by decide, by decide⟩, by decide, by decide, fun D hD => fin v2 _ D hD (by omega) (by omega)⟩
def mv (f : Fr) (a : Int × Int) : Int × Int := (f.p * a.1 + f.q * a.2 + f.t, f.r * a.1 + f.s * a.2 + f.u)
def sp_moved : Sp := fun vs H Q _ => ∃ (a l : Addr) (x : Int × Int) (f : Fr), vs = [.ref a, .ref l] ∧ P2H H a x ∧ FmH H l f ∧ Bx x ∧ ∀ p H', Same H H' → P2H H' p (mv f x) → Q (.ref p) H'
theorem ok_law_moved (T : Txt K mg ad fd) : FnOk P w K mg base CX0 1 (ad 13) (fd 13) ["_law_place", "_law_frame_here"] sp_moved := by
  refine T.law_moved.fn.ok sc_law_moved (fun vs H Q E h => ?_) (fun cdv A outer s H vs Q E hr h => ?_)
  · obtain ⟨a, l, x, f, rfl, _⟩ := h
    rfl
  obtain ⟨a, l, x, f, rfl, hx, ⟨xs, hl, a0, a1, a2, a3, a4, a5, a6, fb⟩, bx, k⟩ := h
  unfold P2H at hx
  have qpss2 := @pss2
  have qps_set := @ps_set
  have qpe_op := @pe_op
  have qpe_ix := @pe_ix
  have qpv := @pv
  have qpe_int := @pe_int
  have qps_ret := @ps_ret
  have qpe_tup := @pe_tup
  have qpa2 := @pa2
  generalize @L2.PE = QE, @L2.PT = QT, @L2.PW = QW, @L2.PA = QA, @L2.PS = QS, @L2.PSs = QSs, @L2.PG = QG, @L2.PGs = QGs, @L2.PI = QI, @L2.PO = QO, @L2.PIf = QIf at qpss2 qps_set qpe_op qpe_ix qpv qpe_int qps_ret qpe_tup qpa2 ⊢
  refine ⟨_,
    (qpss2
      (qps_set (i := 2) sc_law_moved.nd rfl (Or.inl rfl) (qpe_op op_add (qpe_op op_add (qpe_op op_mulB (qpe_ix ix_listH (qpv 1) qpe_int (fun _ _ => rfl)) (qpe_ix ix_tupH (qpv 0) qpe_int (fun _ _ => rfl))) (qpe_op op_mulB (qpe_ix ix_listH (qpv 1) qpe_int (fun _ _ => rfl)) (qpe_ix ix_tupH (qpv 0) qpe_int (fun _ _ => rfl)))) (qpe_ix ix_listH (qpv 1) qpe_int (fun _ _ => rfl))))
      (qps_ret (qpe_tup (qpa2 (qpv 2) ns_Name (qpe_op op_add (qpe_op op_add (qpe_op op_mulB (qpe_ix ix_listH (qpv 1) qpe_int (fun _ _ => rfl)) (qpe_ix ix_tupH (qpv 0) qpe_int (fun _ _ => rfl))) (qpe_op op_mulB (qpe_ix ix_listH (qpv 1) qpe_int (fun _ _ => rfl)) (qpe_ix ix_tupH (qpv 0) qpe_int (fun _ _ => rfl)))) (qpe_ix ix_listH (qpv 1) qpe_int (fun _ _ => rfl))) ns_BinOp))))
    , ?_⟩
  clear  qpss2 qps_set qpe_op qpe_ix qpv qpe_int qps_ret qpe_tup qpa2 QE QT QW QA QS QSs QG QGs QI QO QIf
  simp only [tSeq, tNext, tRet, tRetN, tIfS, tAsg, gName, tDrop, tVar, tC, tOp, tUn, rI, rI0, rU, rEq, rNe, tTest, tB, tNot, tAnd, tOr, tAndV, tOrV, tNotV, tIf, tCB, tCall, tNil, tCons, tTup, tLst, gTup, gCons, gNil, L2.start, rIsi, rIxT, rIxL, cx_K, tyN_non, tyN_bl, tyN_int, tyN_str, isi_ii, isi_ib, isi_it, isi_il, isi_bi, isi_bb, isi_tt, isi_ni, isi_si, isi_ti, isi_li, isi_di, isi_ll, scal_ii, scal_bb, sz0, sz1, sz2, sz3, sz4, List.map_cons, List.map_nil, List.length_cons, List.length_nil, List.replicate, List.cons_append, List.nil_append, List.append_nil, List.getElem?_cons_zero, List.getElem?_cons_succ, List.set_cons_zero, List.set_cons_succ, Option.some.injEq, V.int.injEq, V.bl.injEq, V.ref.injEq, V.ty.injEq, List.cons.injEq, and_true, true_and, exists_eq_left, exists_eq_left', exists_and_left, exists_and_right, exists_eq, exists_eq', and_assoc, Nat.reduceAdd, Nat.reduceSub, Bool.not_true, Bool.not_false, Bool.false_eq_true, if_true, if_false, reduceIte, Nat.zero_add, decide_true, decide_false, selC, comp_K, tYes, Option.join_some, rIxTH, rIxLH, rLenH, rIsiF, at0, at1, at2, at3, at4, at5, at6, at7, at8, HO.tup.injEq, HO.lst.injEq, reduceCtorEq, false_or, or_false, tyF_non, tyF_bl, tyF_int, tyF_str, exists_const, Int.reduceAdd, Int.reduceMul, Int.reduceSub, gSub, rSetL, tSl, tPart, tNoPart, rSlH, upd_same, upd_upd, rIntB, rListH, tBM, tBM0, rAppend, rClear, tPar, gTupH, hx, hl, a0, a1, a2, a3, a4, a5]
  obtain ⟨⟨f1, f2⟩, ⟨f3, f4⟩, ⟨f5, f6⟩, ⟨f7, f8⟩, _⟩ := fb
  obtain ⟨x1, x2, x3, x4⟩ := bx
  have e8 : (2 : Nat) ^ 8 = 256 := rfl
  exact ⟨cbig (m := 8) (n := 8) (by omega) (by omega), cbig (m := 8) (n := 8) (by omega) (by omega), cbig (m := 8) (n := 8) (by omega) (by omega), cbig (m := 8) (n := 8) (by omega) (by omega), fun p hp => k p _ (same_new hp _) upd_same⟩
theorem mv_bd {f : Fr} {x : Int × Int} (fb : FrB f) (bx : Bx x) : Bd3 60 (mv f x).1 (mv f x).2 f.w := by
  obtain ⟨f1, f2, f3, f4, ⟨t1, t2⟩, ⟨u1, u2⟩, w1, w2⟩ := fb
  obtain ⟨x1, x2, x3, x4⟩ := bx
  have m1 := sm_mul f1 x1 x2
  have m2 := sm_mul f2 x3 (by omega)
  have m3 := sm_mul f3 x1 x2
  have m4 := sm_mul f4 x3 (by omega)
  have e : (2 : Nat) ^ 60 = 1152921504606846976 := rfl
  refine ⟨?_, ?_, by omega⟩
  · show (f.p * x.1 + f.q * x.2 + f.t).natAbs < _
    omega
  · show (f.r * x.1 + f.s * x.2 + f.u).natAbs < _
    omega
def MwH (f : Fr) (H : Hp) (p : Addr) (e : E2) : Prop := (∃ c d, H p = some (.tup [.ref c, .ref d]) ∧ P2H H c (mv f e.1) ∧ P2H H d (mv f e.2)) ∧ Bx e.1 ∧ Bx e.2
theorem mw_ts {f : Fr} : ∀ (H H' : Hp) (p : Addr) (e : E2), TupSame H H' → MwH f H p e → MwH f H' p e := fun _ _ _ _ g ⟨⟨c, d, h1, h2, h3⟩, b⟩ => ⟨⟨c, d, g _ _ h1, g _ _ h2, g _ _ h3⟩, b⟩
def sp_land : Sp := fun vs H Q _ => ∃ (l m : Addr) (zs : List V) (cs : List (Int × Int × Int)) (f : Fr), vs = [.ref l, .ref m] ∧ H l = some (.lst zs) ∧ zs.length ≤ 48 ∧ LR C3H H zs cs ∧ FmH H m f ∧ ∀ D ys ws H', H D = none → Same H H' → H' D = some (.lst ys) → ys.length ≤ 144 → LR (MwH f) H' ys ws → Q (.ref D) H'
theorem ok_law_land (T : Txt K mg ad fd) : FnOk P w K mg base CX0 3 (ad 14) (fd 14) ["_law_cells_here", "_law_frame_here"] sp_land := by
  refine T.law_land.fn.ok sc_law_land (fun vs H Q E h => ?_) (fun cdv A outer s H vs Q E hr h => ?_)
  · obtain ⟨l, m, zs, cs, f, rfl, _⟩ := h
    rfl
  obtain ⟨l, m, zs, cs, f, rfl, hl, hn, hz, hf, k⟩ := h
  have qpss2 := @pss2
  have qps_setC := @ps_setC
  unfold L2.CompBody at qps_setC
  have qpi_list := @pi_list
  have qpe_call := @pe_call
  have qpa1 := @pa1
  have qpv := @pv
  have qpg_tupH := @pg_tupH
  have qpgs_cons := @pgs_cons
  have qpg_name := @pg_name
  have qpgs_nil := @pgs_nil
  have qpif_nil := @pif_nil
  have qpe_tup := @pe_tup
  have qpa2 := @pa2
  have qps_ret := @ps_ret
  have qpe_callB := @pe_callB
  generalize @L2.PE = QE, @L2.PT = QT, @L2.PW = QW, @L2.PA = QA, @L2.PS = QS, @L2.PSs = QSs, @L2.PG = QG, @L2.PGs = QGs, @L2.PI = QI, @L2.PO = QO, @L2.PIf = QIf at qpss2 qps_setC qpi_list qpe_call qpa1 qpv qpg_tupH qpgs_cons qpg_name qpgs_nil qpif_nil qpe_tup qpa2 qps_ret qpe_callB ⊢
  refine ⟨_,
    (qpss2
      (qps_setC (i := 2) sc_law_land.nd rfl (Or.inl rfl) (dsc := defScope s_law_land) (N := ["_law_cells_here", "_law_frame_here", "_law_ways"]) (own := ["_law_first", "_law_last"]) (ix := [1]) rfl rfl rfl ⟨rfl, by decide +kernel, by decide +kernel, by decide +kernel, by decide +kernel⟩ (qpi_list (qpe_call (ok_law_long T) (hr.mono (by decide)) rfl T.law_long.mg T.law_long.fn.kp T.law_long.bn .nil pass0 (qpa1 (qpe_call (ok_law_edges T) (hr.mono (by decide)) rfl T.law_edges.mg T.law_edges.fn.kp T.law_edges.bn .nil pass0 (qpa1 (qpv 0) ns_Name)) ns_Call))) (fun cl C fp s2 H2 xe => ⟨(qpg_tupH (n := 2) rfl (qpgs_cons (qpg_name (i := 0) (show List.Nodup (["_law_first", "_law_last", "_law_frame_here"] : List Str) from by decide +kernel) rfl (Or.inl rfl) (Or.inr rfl)) (qpgs_cons (qpg_name (i := 1) (show List.Nodup (["_law_first", "_law_last", "_law_frame_here"] : List Str) from by decide +kernel) rfl (Or.inl rfl) (Or.inr rfl)) qpgs_nil))), qpif_nil, (qpe_tup (qpa2 (qpe_call (ok_law_moved T) (hr.mono (by decide)) rfl T.law_moved.mg T.law_moved.fn.kp T.law_moved.bn .nil pass0 (qpa2 (qpv 0) ns_Name (qpv 2) ns_Name)) ns_Call (qpe_call (ok_law_moved T) (hr.mono (by decide)) rfl T.law_moved.mg T.law_moved.fn.kp T.law_moved.bn .nil pass0 (qpa2 (qpv 1) ns_Name (qpv 2) ns_Name)) ns_Call))⟩))
      (qps_ret (qpe_callB (call_sortN (hu100 hr)) rfl T.b_sorted bt_sorted (qpa1 (qpv 2) ns_Name))))
    , ?_⟩
  clear  qpss2 qps_setC qpi_list qpe_call qpa1 qpv qpg_tupH qpgs_cons qpg_name qpgs_nil qpif_nil qpe_tup qpa2 qps_ret qpe_callB QE QT QW QA QS QSs QG QGs QI QO QIf
  simp only [tSeq, tNext, tRet, tRetN, tIfS, tAsg, gName, tDrop, tVar, tC, tOp, tUn, rI, rI0, rU, rEq, rNe, tTest, tB, tNot, tAnd, tOr, tAndV, tOrV, tNotV, tIf, tCB, tCall, tNil, tCons, tTup, tLst, gTup, gCons, gNil, L2.start, rIsi, rIxT, rIxL, cx_K, tyN_non, tyN_bl, tyN_int, tyN_str, isi_ii, isi_ib, isi_it, isi_il, isi_bi, isi_bb, isi_tt, isi_ni, isi_si, isi_ti, isi_li, isi_di, isi_ll, scal_ii, scal_bb, sz0, sz1, sz2, sz3, sz4, List.map_cons, List.map_nil, List.length_cons, List.length_nil, List.replicate, List.cons_append, List.nil_append, List.append_nil, List.getElem?_cons_zero, List.getElem?_cons_succ, List.set_cons_zero, List.set_cons_succ, Option.some.injEq, V.int.injEq, V.bl.injEq, V.ref.injEq, V.ty.injEq, List.cons.injEq, and_true, true_and, exists_eq_left, exists_eq_left', exists_and_left, exists_and_right, exists_eq, exists_eq', and_assoc, Nat.reduceAdd, Nat.reduceSub, Bool.not_true, Bool.not_false, Bool.false_eq_true, if_true, if_false, reduceIte, Nat.zero_add, decide_true, decide_false, selC, comp_K, tYes, Option.join_some, rIxTH, rIxLH, rLenH, rIsiF, at0, at1, at2, at3, at4, at5, at6, at7, at8, HO.tup.injEq, HO.lst.injEq, reduceCtorEq, false_or, or_false, tyF_non, tyF_bl, tyF_int, tyF_str, exists_const, Int.reduceAdd, Int.reduceMul, Int.reduceSub, gSub, rSetL, tSl, tPart, tNoPart, rSlH, upd_same, upd_upd, rIntB, rListH, tBM, tBM0, rAppend, rClear, tPar, gTupH]
  refine tComp_mk ?_
  simp only [iList, tSeq, tNext, tRet, tRetN, tIfS, tAsg, gName, tDrop, tVar, tC, tOp, tUn, rI, rI0, rU, rEq, rNe, tTest, tB, tNot, tAnd, tOr, tAndV, tOrV, tNotV, tIf, tCB, tCall, tNil, tCons, tTup, tLst, gTup, gCons, gNil, L2.start, rIsi, rIxT, rIxL, cx_K, tyN_non, tyN_bl, tyN_int, tyN_str, isi_ii, isi_ib, isi_it, isi_il, isi_bi, isi_bb, isi_tt, isi_ni, isi_si, isi_ti, isi_li, isi_di, isi_ll, scal_ii, scal_bb, sz0, sz1, sz2, sz3, sz4, List.map_cons, List.map_nil, List.length_cons, List.length_nil, List.replicate, List.cons_append, List.nil_append, List.append_nil, List.getElem?_cons_zero, List.getElem?_cons_succ, List.set_cons_zero, List.set_cons_succ, Option.some.injEq, V.int.injEq, V.bl.injEq, V.ref.injEq, V.ty.injEq, List.cons.injEq, and_true, true_and, exists_eq_left, exists_eq_left', exists_and_left, exists_and_right, exists_eq, exists_eq', and_assoc, Nat.reduceAdd, Nat.reduceSub, Bool.not_true, Bool.not_false, Bool.false_eq_true, if_true, if_false, reduceIte, Nat.zero_add, decide_true, decide_false, selC, comp_K, tYes, Option.join_some, rIxTH, rIxLH, rLenH, rIsiF, at0, at1, at2, at3, at4, at5, at6, at7, at8, HO.tup.injEq, HO.lst.injEq, reduceCtorEq, false_or, or_false, tyF_non, tyF_bl, tyF_int, tyF_str, exists_const, Int.reduceAdd, Int.reduceMul, Int.reduceSub, gSub, rSetL, tSl, tPart, tNoPart, rSlH, upd_same, upd_upd, rIntB, rListH, tBM, tBM0, rAppend, rClear, tPar, gTupH]
  refine ⟨l, zs, cs, rfl, hl, hn, hz, fun D1 ys es H1 hD1 g1 h1 n1 he => ?_⟩
  refine ⟨D1, ys, es, rfl, h1, n1, he, fun D2 zs2 ws H2 hD2 g2 h2 n2 hw => ?_⟩
  have g02 := g1.trans g2
  refine ⟨D2, rfl, ⟨_, .of h2⟩, fun D3 hD3 => ?_⟩
  refine comp_list (xs := zs2) (iv_lr (MwH f) ws H2 D3) (iv_lr_nil hD3) (fun i qs H' q => .of (q.1 _ _ h2)) ?_ ?_
  · rintro i qs H3 v hi hv iv
    obtain ⟨g3, hD33, lq, hq⟩ := id iv
    obtain ⟨p, e, rfl, he', ⟨c, d, e1, e2, e3⟩, b1, b2⟩ := hw.2 i v hv
    have e1' := g3 _ _ e1
    simp only [tSeq, tNext, tRet, tRetN, tIfS, tAsg, gName, tDrop, tVar, tC, tOp, tUn, rI, rI0, rU, rEq, rNe, tTest, tB, tNot, tAnd, tOr, tAndV, tOrV, tNotV, tIf, tCB, tCall, tNil, tCons, tTup, tLst, gTup, gCons, gNil, L2.start, rIsi, rIxT, rIxL, cx_K, tyN_non, tyN_bl, tyN_int, tyN_str, isi_ii, isi_ib, isi_it, isi_il, isi_bi, isi_bb, isi_tt, isi_ni, isi_si, isi_ti, isi_li, isi_di, isi_ll, scal_ii, scal_bb, sz0, sz1, sz2, sz3, sz4, List.map_cons, List.map_nil, List.length_cons, List.length_nil, List.replicate, List.cons_append, List.nil_append, List.append_nil, List.getElem?_cons_zero, List.getElem?_cons_succ, List.set_cons_zero, List.set_cons_succ, Option.some.injEq, V.int.injEq, V.bl.injEq, V.ref.injEq, V.ty.injEq, List.cons.injEq, and_true, true_and, exists_eq_left, exists_eq_left', exists_and_left, exists_and_right, exists_eq, exists_eq', and_assoc, Nat.reduceAdd, Nat.reduceSub, Bool.not_true, Bool.not_false, Bool.false_eq_true, if_true, if_false, reduceIte, Nat.zero_add, decide_true, decide_false, selC, comp_K, tYes, Option.join_some, rIxTH, rIxLH, rLenH, rIsiF, at0, at1, at2, at3, at4, at5, at6, at7, at8, HO.tup.injEq, HO.lst.injEq, reduceCtorEq, false_or, or_false, tyF_non, tyF_bl, tyF_int, tyF_str, exists_const, Int.reduceAdd, Int.reduceMul, Int.reduceSub, gSub, rSetL, tSl, tPart, tNoPart, rSlH, upd_same, upd_upd, rIntB, rListH, tBM, tBM0, rAppend, rClear, tPar, gTupH, e1']
    refine ⟨c, m, e.1, f, rfl, g3 _ _ e2, hf.same (g02.trans g3), b1, fun pa H4 g4 ha => ?_⟩
    refine ⟨d, m, e.2, f, rfl, g4 _ _ (g3 _ _ e3), hf.same ((g02.trans g3).trans g4), b2, fun pb H5 g5 hb => ?_⟩
    intro t ht
    have g6 := same_new ht (HO.tup [V.ref pa, V.ref pb])
    have h6 : upd H5 t (HO.tup [V.ref pa, V.ref pb]) t = some (HO.tup [V.ref pa, V.ref pb]) := upd_same
    generalize upd H5 t (HO.tup [V.ref pa, V.ref pb]) = H6 at *
    have a6 : P2H H6 pa (mv f e.1) := g6 _ _ (g5 _ _ ha)
    have b6 : P2H H6 pb (mv f e.2) := g6 _ _ hb
    exact iv_lr_put mw_ts hD3 (by omega) iv hi he' ((g4.trans g5).trans g6) ⟨⟨pa, pb, h6, a6, b6⟩, b1, b2⟩
  · rintro qs H3 ⟨g3, hD33, lq, hq⟩
    rw [List.take_of_length_le (Nat.le_of_eq hw.1.symm)] at hq
    have g03 := g02.trans g3
    refine ⟨D3, qs, rfl, hD33, ?_, fun D4 qs4 hD4 pm => ?_⟩
    · intro v hv
      obtain ⟨j, hj⟩ := List.getElem?_of_mem hv
      obtain ⟨p, e, rfl, _, ⟨c, d, e1, e2, e3⟩, _⟩ := hq.2 j v hj
      exact ⟨p, c, d, _, _, _, _, rfl, e1, e2, e3⟩
    · obtain ⟨ws', pw, hw'⟩ := LR.perm pm.symm hq
      have g4 := same_new hD4 (HO.lst qs4)
      exact k D4 qs4 ws' _ (g03.free hD4) (g03.trans g4) upd_same (by rw [pm.length_eq]; omega) (hw'.ts mw_ts (ts_same g4))
def pqF (f : Fr) (a : Int × Int) : Q3 := ptQ (mv f a).1 (mv f a).2 f.w
def S2H (H : Hp) (p : Addr) (e : Q3 × Q3) : Prop := ∃ c d, H p = some (.tup [.ref c, .ref d]) ∧ QH H c e.1 ∧ QH H d e.2
theorem s2_ts : ∀ (H H' : Hp) (p : Addr) (e : Q3 × Q3), TupSame H H' → S2H H p e → S2H H' p e := fun _ _ _ _ g ⟨c, d, h1, h2, h3⟩ => ⟨c, d, g _ _ h1, qh_ts _ _ _ _ g h2, qh_ts _ _ _ _ g h3⟩
def tdF (f : Fr) (e : E2) : Q3 × Q3 := (pqF f e.1, pqF f e.2)
def sp_told : Sp := fun vs H Q _ => ∃ (l : Addr) (ys : List V) (ws : List E2) (f : Fr), vs = [.ref l, .int f.w] ∧ H l = some (.lst ys) ∧ ys.length ≤ 144 ∧ LR (MwH f) H ys ws ∧ FrB f ∧ ∀ D zs H', H D = none → Same H H' → H' D = some (.lst zs) → LR S2H H' zs (ws.map (tdF f)) → Q (.ref D) H'
theorem ok_law_told (T : Txt K mg ad fd) : FnOk P w K mg base CX0 3 (ad 15) (fd 15) ["_law_ways", "_law_share"] sp_told := by
  refine T.law_told.fn.ok sc_law_told (fun vs H Q E h => ?_) (fun cdv A outer s H vs Q E hr h => ?_)
  · obtain ⟨l, ys, ws, f, rfl, _⟩ := h
    rfl
  obtain ⟨l, ys, ws, f, rfl, hl, hn, hw, fb, k⟩ := h
  have qpss_one := @pss_one
  have qps_ret := @ps_ret
  have qpe_comp := @pe_comp
  unfold L2.CompBody at qpe_comp
  have qpi_list := @pi_list
  have qpv := @pv
  have qpg_tupH := @pg_tupH
  have qpgs_cons := @pgs_cons
  have qpg_name := @pg_name
  have qpgs_nil := @pgs_nil
  have qpif_nil := @pif_nil
  have qpe_tup := @pe_tup
  have qpa2 := @pa2
  have qpe_call := @pe_call
  have qpa3 := @pa3
  have qpe_ix := @pe_ix
  have qpe_int := @pe_int
  generalize @L2.PE = QE, @L2.PT = QT, @L2.PW = QW, @L2.PA = QA, @L2.PS = QS, @L2.PSs = QSs, @L2.PG = QG, @L2.PGs = QGs, @L2.PI = QI, @L2.PO = QO, @L2.PIf = QIf at qpss_one qps_ret qpe_comp qpi_list qpv qpg_tupH qpgs_cons qpg_name qpgs_nil qpif_nil qpe_tup qpa2 qpe_call qpa3 qpe_ix qpe_int ⊢
  refine ⟨_,
    (qpss_one (qps_ret (qpe_comp (dsc := defScope s_law_told) (N := ["_law_ways", "_law_share"]) (own := ["_law_a", "_law_b"]) (ix := [1]) rfl rfl rfl ⟨rfl, by decide +kernel, by decide +kernel, by decide +kernel, by decide +kernel⟩ (qpi_list (qpv 0)) (fun cl C fp s2 H2 xe => ⟨(qpg_tupH (n := 2) rfl (qpgs_cons (qpg_name (i := 0) (show List.Nodup (["_law_a", "_law_b", "_law_share"] : List Str) from by decide +kernel) rfl (Or.inl rfl) (Or.inr rfl)) (qpgs_cons (qpg_name (i := 1) (show List.Nodup (["_law_a", "_law_b", "_law_share"] : List Str) from by decide +kernel) rfl (Or.inl rfl) (Or.inr rfl)) qpgs_nil))), qpif_nil, (qpe_tup (qpa2 (qpe_call (ok_law_point T) (hr.mono (by decide)) rfl T.law_point.mg T.law_point.fn.kp T.law_point.bn .nil pass0 (qpa3 (qpe_ix ix_tupH (qpv 0) qpe_int (fun _ _ => rfl)) ns_Subscript (qpe_ix ix_tupH (qpv 0) qpe_int (fun _ _ => rfl)) ns_Subscript (qpv 2) ns_Name)) ns_Call (qpe_call (ok_law_point T) (hr.mono (by decide)) rfl T.law_point.mg T.law_point.fn.kp T.law_point.bn .nil pass0 (qpa3 (qpe_ix ix_tupH (qpv 1) qpe_int (fun _ _ => rfl)) ns_Subscript (qpe_ix ix_tupH (qpv 1) qpe_int (fun _ _ => rfl)) ns_Subscript (qpv 2) ns_Name)) ns_Call))⟩))))
    , ?_⟩
  clear  qpss_one qps_ret qpe_comp qpi_list qpv qpg_tupH qpgs_cons qpg_name qpgs_nil qpif_nil qpe_tup qpa2 qpe_call qpa3 qpe_ix qpe_int QE QT QW QA QS QSs QG QGs QI QO QIf
  simp only [tSeq, tNext, tRet, tRetN, tIfS, tAsg, gName, tDrop, tVar, tC, tOp, tUn, rI, rI0, rU, rEq, rNe, tTest, tB, tNot, tAnd, tOr, tAndV, tOrV, tNotV, tIf, tCB, tCall, tNil, tCons, tTup, tLst, gTup, gCons, gNil, L2.start, rIsi, rIxT, rIxL, cx_K, tyN_non, tyN_bl, tyN_int, tyN_str, isi_ii, isi_ib, isi_it, isi_il, isi_bi, isi_bb, isi_tt, isi_ni, isi_si, isi_ti, isi_li, isi_di, isi_ll, scal_ii, scal_bb, sz0, sz1, sz2, sz3, sz4, List.map_cons, List.map_nil, List.length_cons, List.length_nil, List.replicate, List.cons_append, List.nil_append, List.append_nil, List.getElem?_cons_zero, List.getElem?_cons_succ, List.set_cons_zero, List.set_cons_succ, Option.some.injEq, V.int.injEq, V.bl.injEq, V.ref.injEq, V.ty.injEq, List.cons.injEq, and_true, true_and, exists_eq_left, exists_eq_left', exists_and_left, exists_and_right, exists_eq, exists_eq', and_assoc, Nat.reduceAdd, Nat.reduceSub, Bool.not_true, Bool.not_false, Bool.false_eq_true, if_true, if_false, reduceIte, Nat.zero_add, decide_true, decide_false, selC, comp_K, tYes, Option.join_some, rIxTH, rIxLH, rLenH, rIsiF, at0, at1, at2, at3, at4, at5, at6, at7, at8, HO.tup.injEq, HO.lst.injEq, reduceCtorEq, false_or, or_false, tyF_non, tyF_bl, tyF_int, tyF_str, exists_const, Int.reduceAdd, Int.reduceMul, Int.reduceSub, gSub, rSetL, tSl, tPart, tNoPart, rSlH, upd_same, upd_upd, rIntB, rListH, tBM, tBM0, rAppend, rClear, tPar, gTupH]
  refine tComp_mk ?_
  simp only [iList, tSeq, tNext, tRet, tRetN, tIfS, tAsg, gName, tDrop, tVar, tC, tOp, tUn, rI, rI0, rU, rEq, rNe, tTest, tB, tNot, tAnd, tOr, tAndV, tOrV, tNotV, tIf, tCB, tCall, tNil, tCons, tTup, tLst, gTup, gCons, gNil, L2.start, rIsi, rIxT, rIxL, cx_K, tyN_non, tyN_bl, tyN_int, tyN_str, isi_ii, isi_ib, isi_it, isi_il, isi_bi, isi_bb, isi_tt, isi_ni, isi_si, isi_ti, isi_li, isi_di, isi_ll, scal_ii, scal_bb, sz0, sz1, sz2, sz3, sz4, List.map_cons, List.map_nil, List.length_cons, List.length_nil, List.replicate, List.cons_append, List.nil_append, List.append_nil, List.getElem?_cons_zero, List.getElem?_cons_succ, List.set_cons_zero, List.set_cons_succ, Option.some.injEq, V.int.injEq, V.bl.injEq, V.ref.injEq, V.ty.injEq, List.cons.injEq, and_true, true_and, exists_eq_left, exists_eq_left', exists_and_left, exists_and_right, exists_eq, exists_eq', and_assoc, Nat.reduceAdd, Nat.reduceSub, Bool.not_true, Bool.not_false, Bool.false_eq_true, if_true, if_false, reduceIte, Nat.zero_add, decide_true, decide_false, selC, comp_K, tYes, Option.join_some, rIxTH, rIxLH, rLenH, rIsiF, at0, at1, at2, at3, at4, at5, at6, at7, at8, HO.tup.injEq, HO.lst.injEq, reduceCtorEq, false_or, or_false, tyF_non, tyF_bl, tyF_int, tyF_str, exists_const, Int.reduceAdd, Int.reduceMul, Int.reduceSub, gSub, rSetL, tSl, tPart, tNoPart, rSlH, upd_same, upd_upd, rIntB, rListH, tBM, tBM0, rAppend, rClear, tPar, gTupH]
  refine ⟨⟨_, .of hl⟩, fun D hD => ?_⟩
  refine comp_list (xs := ys) (iv_lr (fun H p w => S2H H p (tdF f w)) ws H D) (iv_lr_nil hD) (fun i qs H' q => .of (q.1 _ _ hl)) ?_ ?_
  · rintro i qs H3 v hi hv iv
    obtain ⟨g3, hD33, lq, hq⟩ := id iv
    obtain ⟨p, e, rfl, he', ⟨c, d, e1, e2, e3⟩, b1, b2⟩ := hw.2 i v hv
    have e1' := g3 _ _ e1
    have e2' : H3 c = some (.tup [.int (mv f e.1).1, .int (mv f e.1).2]) := g3 _ _ e2
    have e3' : H3 d = some (.tup [.int (mv f e.2).1, .int (mv f e.2).2]) := g3 _ _ e3
    have w1 := fb.2.2.2.2.2.2.1
    simp only [tSeq, tNext, tRet, tRetN, tIfS, tAsg, gName, tDrop, tVar, tC, tOp, tUn, rI, rI0, rU, rEq, rNe, tTest, tB, tNot, tAnd, tOr, tAndV, tOrV, tNotV, tIf, tCB, tCall, tNil, tCons, tTup, tLst, gTup, gCons, gNil, L2.start, rIsi, rIxT, rIxL, cx_K, tyN_non, tyN_bl, tyN_int, tyN_str, isi_ii, isi_ib, isi_it, isi_il, isi_bi, isi_bb, isi_tt, isi_ni, isi_si, isi_ti, isi_li, isi_di, isi_ll, scal_ii, scal_bb, sz0, sz1, sz2, sz3, sz4, List.map_cons, List.map_nil, List.length_cons, List.length_nil, List.replicate, List.cons_append, List.nil_append, List.append_nil, List.getElem?_cons_zero, List.getElem?_cons_succ, List.set_cons_zero, List.set_cons_succ, Option.some.injEq, V.int.injEq, V.bl.injEq, V.ref.injEq, V.ty.injEq, List.cons.injEq, and_true, true_and, exists_eq_left, exists_eq_left', exists_and_left, exists_and_right, exists_eq, exists_eq', and_assoc, Nat.reduceAdd, Nat.reduceSub, Bool.not_true, Bool.not_false, Bool.false_eq_true, if_true, if_false, reduceIte, Nat.zero_add, decide_true, decide_false, selC, comp_K, tYes, Option.join_some, rIxTH, rIxLH, rLenH, rIsiF, at0, at1, at2, at3, at4, at5, at6, at7, at8, HO.tup.injEq, HO.lst.injEq, reduceCtorEq, false_or, or_false, tyF_non, tyF_bl, tyF_int, tyF_str, exists_const, Int.reduceAdd, Int.reduceMul, Int.reduceSub, gSub, rSetL, tSl, tPart, tNoPart, rSlH, upd_same, upd_upd, rIntB, rListH, tBM, tBM0, rAppend, rClear, tPar, gTupH, e1', e2']
    refine ⟨_, _, _, rfl, mv_bd fb b1, by omega, fun pa H4 g4 ha => ?_⟩
    have e4' := g4 _ _ e3'
    simp only [tSeq, tNext, tRet, tRetN, tIfS, tAsg, gName, tDrop, tVar, tC, tOp, tUn, rI, rI0, rU, rEq, rNe, tTest, tB, tNot, tAnd, tOr, tAndV, tOrV, tNotV, tIf, tCB, tCall, tNil, tCons, tTup, tLst, gTup, gCons, gNil, L2.start, rIsi, rIxT, rIxL, cx_K, tyN_non, tyN_bl, tyN_int, tyN_str, isi_ii, isi_ib, isi_it, isi_il, isi_bi, isi_bb, isi_tt, isi_ni, isi_si, isi_ti, isi_li, isi_di, isi_ll, scal_ii, scal_bb, sz0, sz1, sz2, sz3, sz4, List.map_cons, List.map_nil, List.length_cons, List.length_nil, List.replicate, List.cons_append, List.nil_append, List.append_nil, List.getElem?_cons_zero, List.getElem?_cons_succ, List.set_cons_zero, List.set_cons_succ, Option.some.injEq, V.int.injEq, V.bl.injEq, V.ref.injEq, V.ty.injEq, List.cons.injEq, and_true, true_and, exists_eq_left, exists_eq_left', exists_and_left, exists_and_right, exists_eq, exists_eq', and_assoc, Nat.reduceAdd, Nat.reduceSub, Bool.not_true, Bool.not_false, Bool.false_eq_true, if_true, if_false, reduceIte, Nat.zero_add, decide_true, decide_false, selC, comp_K, tYes, Option.join_some, rIxTH, rIxLH, rLenH, rIsiF, at0, at1, at2, at3, at4, at5, at6, at7, at8, HO.tup.injEq, HO.lst.injEq, reduceCtorEq, false_or, or_false, tyF_non, tyF_bl, tyF_int, tyF_str, exists_const, Int.reduceAdd, Int.reduceMul, Int.reduceSub, gSub, rSetL, tSl, tPart, tNoPart, rSlH, upd_same, upd_upd, rIntB, rListH, tBM, tBM0, rAppend, rClear, tPar, gTupH, e4']
    refine ⟨_, _, _, rfl, mv_bd fb b2, by omega, fun pb H5 g5 hb => ?_⟩
    intro t ht
    have g6 := same_new ht (HO.tup [V.ref pa, V.ref pb])
    have h6 : upd H5 t (HO.tup [V.ref pa, V.ref pb]) t = some (HO.tup [V.ref pa, V.ref pb]) := upd_same
    generalize upd H5 t (HO.tup [V.ref pa, V.ref pb]) = H6 at *
    have fin : S2H H6 t (tdF f e) := ⟨pa, pb, h6, (ha.same g5).same g6, hb.same g6⟩
    exact iv_lr_put (R := fun H p w => S2H H p (tdF f w)) (a := e) (fun _ _ _ _ => s2_ts _ _ _ _) hD (by omega) iv hi he' ((g4.trans g5).trans g6) fin
  · rintro qs H3 ⟨g3, hD33, lq, hq⟩
    rw [List.take_of_length_le (Nat.le_of_eq hw.1.symm)] at hq
    exact k D qs H3 hD g3 hD33 hq.map
def sp_endsof : Sp := fun vs H Q _ => ∃ (l : Addr) (ys : List V) (ss : List (Q3 × Q3)), vs = [.ref l] ∧ H l = some (.lst ys) ∧ ys.length ≤ 144 ∧ LR S2H H ys ss ∧ ∀ D zs H', H D = none → Same H H' → H' D = some (.lst zs) → zs.length = 2 * ys.length → LR QH H' zs (ss.flatMap fun s => [s.1, s.2]) → Q (.ref D) H'
theorem ok_ends_of (T : Txt K mg ad fd) : FnOk P w K mg base CX0 1 (ad 2) (fd 2) ["stretches"] sp_endsof := by
  refine T.ends_of.fn.ok sc_ends_of (fun vs H Q E h => ?_) (fun cdv A outer s H vs Q E hr h => ?_)
  · obtain ⟨l, ys, ss, rfl, _⟩ := h
    rfl
  obtain ⟨l, ys, ss, rfl, hl, hn, hs, k⟩ := h
  have qpss3 := @pss3
  have qps_set := @ps_set
  have qpe_lst := @pe_lst
  have qpa_nil := @pa_nil
  have qps_for := @ps_for
  have qpi_list := @pi_list
  have qpv := @pv
  have qpg_name := @pg_name
  have qpss_one := @pss_one
  have qps_expr := @ps_expr
  have qpe_bm := @pe_bm
  have qpa1 := @pa1
  have qps_ret := @ps_ret
  generalize @L2.PE = QE, @L2.PT = QT, @L2.PW = QW, @L2.PA = QA, @L2.PS = QS, @L2.PSs = QSs, @L2.PG = QG, @L2.PGs = QGs, @L2.PI = QI, @L2.PO = QO, @L2.PIf = QIf at qpss3 qps_set qpe_lst qpa_nil qps_for qpi_list qpv qpg_name qpss_one qps_expr qpe_bm qpa1 qps_ret ⊢
  refine ⟨_,
    (qpss3
      (qps_set (i := 1) sc_ends_of.nd rfl (Or.inl rfl) (qpe_lst qpa_nil))
      (qps_for PassesOwn.never rfl (qpi_list (qpv 0)) (qpg_name (i := 2) sc_ends_of.nd rfl (Or.inl rfl)) (qpss_one (qps_expr (qpe_bm PySem.F.plainAttrs_list PySem.F.slot_list_extend PySem.F.type_list_extend mt_extT (qpv 1) (qpa1 (qpv 2) ns_Name)))))
      (qps_ret (qpv 1)))
    , ?_⟩
  clear  qpss3 qps_set qpe_lst qpa_nil qps_for qpi_list qpv qpg_name qpss_one qps_expr qpe_bm qpa1 qps_ret QE QT QW QA QS QSs QG QGs QI QO QIf
  simp only [tSeq, tNext, tRet, tRetN, tIfS, tAsg, gName, tDrop, tVar, tC, tOp, tUn, rI, rI0, rU, rEq, rNe, tTest, tB, tNot, tAnd, tOr, tAndV, tOrV, tNotV, tIf, tCB, tCall, tNil, tCons, tTup, tLst, gTup, gCons, gNil, L2.start, rIsi, rIxT, rIxL, cx_K, tyN_non, tyN_bl, tyN_int, tyN_str, isi_ii, isi_ib, isi_it, isi_il, isi_bi, isi_bb, isi_tt, isi_ni, isi_si, isi_ti, isi_li, isi_di, isi_ll, scal_ii, scal_bb, sz0, sz1, sz2, sz3, sz4, List.map_cons, List.map_nil, List.length_cons, List.length_nil, List.replicate, List.cons_append, List.nil_append, List.append_nil, List.getElem?_cons_zero, List.getElem?_cons_succ, List.set_cons_zero, List.set_cons_succ, Option.some.injEq, V.int.injEq, V.bl.injEq, V.ref.injEq, V.ty.injEq, List.cons.injEq, and_true, true_and, exists_eq_left, exists_eq_left', exists_and_left, exists_and_right, exists_eq, exists_eq', and_assoc, Nat.reduceAdd, Nat.reduceSub, Bool.not_true, Bool.not_false, Bool.false_eq_true, if_true, if_false, reduceIte, Nat.zero_add, decide_true, decide_false, selC, comp_K, tYes, Option.join_some, rIxTH, rIxLH, rLenH, rIsiF, at0, at1, at2, at3, at4, at5, at6, at7, at8, HO.tup.injEq, HO.lst.injEq, reduceCtorEq, false_or, or_false, tyF_non, tyF_bl, tyF_int, tyF_str, exists_const, Int.reduceAdd, Int.reduceMul, Int.reduceSub, gSub, rSetL, tSl, tPart, tNoPart, rSlH, upd_same, upd_upd, rIntB, rListH, tBM, tBM0, rAppend, rClear, tPar, gTupH]
  intro D hD
  have gD := same_new hD (HO.lst [])
  refine tFor_mk ?_
  simp only [iList, tSeq, tNext, tRet, tRetN, tIfS, tAsg, gName, tDrop, tVar, tC, tOp, tUn, rI, rI0, rU, rEq, rNe, tTest, tB, tNot, tAnd, tOr, tAndV, tOrV, tNotV, tIf, tCB, tCall, tNil, tCons, tTup, tLst, gTup, gCons, gNil, L2.start, rIsi, rIxT, rIxL, cx_K, tyN_non, tyN_bl, tyN_int, tyN_str, isi_ii, isi_ib, isi_it, isi_il, isi_bi, isi_bb, isi_tt, isi_ni, isi_si, isi_ti, isi_li, isi_di, isi_ll, scal_ii, scal_bb, sz0, sz1, sz2, sz3, sz4, List.map_cons, List.map_nil, List.length_cons, List.length_nil, List.replicate, List.cons_append, List.nil_append, List.append_nil, List.getElem?_cons_zero, List.getElem?_cons_succ, List.set_cons_zero, List.set_cons_succ, Option.some.injEq, V.int.injEq, V.bl.injEq, V.ref.injEq, V.ty.injEq, List.cons.injEq, and_true, true_and, exists_eq_left, exists_eq_left', exists_and_left, exists_and_right, exists_eq, exists_eq', and_assoc, Nat.reduceAdd, Nat.reduceSub, Bool.not_true, Bool.not_false, Bool.false_eq_true, if_true, if_false, reduceIte, Nat.zero_add, decide_true, decide_false, selC, comp_K, tYes, Option.join_some, rIxTH, rIxLH, rLenH, rIsiF, at0, at1, at2, at3, at4, at5, at6, at7, at8, HO.tup.injEq, HO.lst.injEq, reduceCtorEq, false_or, or_false, tyF_non, tyF_bl, tyF_int, tyF_str, exists_const, Int.reduceAdd, Int.reduceMul, Int.reduceSub, gSub, rSetL, tSl, tPart, tNoPart, rSlH, upd_same, upd_upd, rIntB, rListH, tBM, tBM0, rAppend, rClear, tPar, gTupH]
  refine ⟨⟨_, .of (gD _ _ hl)⟩, ?_⟩
  refine for_list (K := K) (a := l) (xs := ys) (fun i σ H' => Same H H' ∧ ∃ (zs : List V) (o : Option V), σ = [some (.ref l), some (.ref D), o] ∧ H' D = some (.lst zs) ∧ zs.length = 2 * i ∧ LR QH H' zs ((ss.take i).flatMap fun s => [s.1, s.2])) ⟨gD, [], none, rfl, upd_same, rfl, by rw [List.take_zero]; exact .nil⟩ (fun i σ H' _ iv => .of (iv.1 _ _ hl)) ?_ ?_
  · rintro i v σ H2 hi ⟨g2, zs, o, rfl, hD2, hz, hq⟩
    obtain ⟨p, e, rfl, he', c, d, h1, h2, h3⟩ := hs.2 i v hi
    have hi' := (List.getElem?_eq_some_iff.mp hi).1
    have h1' := g2 _ _ h1
    simp only [tSeq, tNext, tRet, tRetN, tIfS, tAsg, gName, tDrop, tVar, tC, tOp, tUn, rI, rI0, rU, rEq, rNe, tTest, tB, tNot, tAnd, tOr, tAndV, tOrV, tNotV, tIf, tCB, tCall, tNil, tCons, tTup, tLst, gTup, gCons, gNil, L2.start, rIsi, rIxT, rIxL, cx_K, tyN_non, tyN_bl, tyN_int, tyN_str, isi_ii, isi_ib, isi_it, isi_il, isi_bi, isi_bb, isi_tt, isi_ni, isi_si, isi_ti, isi_li, isi_di, isi_ll, scal_ii, scal_bb, sz0, sz1, sz2, sz3, sz4, List.map_cons, List.map_nil, List.length_cons, List.length_nil, List.replicate, List.cons_append, List.nil_append, List.append_nil, List.getElem?_cons_zero, List.getElem?_cons_succ, List.set_cons_zero, List.set_cons_succ, Option.some.injEq, V.int.injEq, V.bl.injEq, V.ref.injEq, V.ty.injEq, List.cons.injEq, and_true, true_and, exists_eq_left, exists_eq_left', exists_and_left, exists_and_right, exists_eq, exists_eq', and_assoc, Nat.reduceAdd, Nat.reduceSub, Bool.not_true, Bool.not_false, Bool.false_eq_true, if_true, if_false, reduceIte, Nat.zero_add, decide_true, decide_false, selC, comp_K, tYes, Option.join_some, rIxTH, rIxLH, rLenH, rIsiF, at0, at1, at2, at3, at4, at5, at6, at7, at8, HO.tup.injEq, HO.lst.injEq, reduceCtorEq, false_or, or_false, tyF_non, tyF_bl, tyF_int, tyF_str, exists_const, Int.reduceAdd, Int.reduceMul, Int.reduceSub, gSub, rSetL, tSl, tPart, tNoPart, rSlH, upd_same, upd_upd, rIntB, rListH, tBM, tBM0, rAppend, rClear, tPar, gTupH, h1']
    refine ⟨tyV_of hD2, D, p, zs, [.ref c, .ref d], rfl, rfl, hD2, h1', Nat.le_of_lt (small1000 (n := zs.length + 2) (by omega)), same_put g2 hD, _, upd_same, by rw [List.length_append, hz]; show 2 * i + 2 = _; omega, ?_⟩
    rw [List.take_add_one, he', List.flatMap_append]
    exact (hq.app ((LR.one (R := QH) (h2.same g2)).app (.one (h3.same g2)))).ts qh_ts (ts_put hD2)
  · rintro σ H2 ⟨g2, zs, o, rfl, hD2, hz, hq⟩
    simp only [tSeq, tNext, tRet, tRetN, tIfS, tAsg, gName, tDrop, tVar, tC, tOp, tUn, rI, rI0, rU, rEq, rNe, tTest, tB, tNot, tAnd, tOr, tAndV, tOrV, tNotV, tIf, tCB, tCall, tNil, tCons, tTup, tLst, gTup, gCons, gNil, L2.start, rIsi, rIxT, rIxL, cx_K, tyN_non, tyN_bl, tyN_int, tyN_str, isi_ii, isi_ib, isi_it, isi_il, isi_bi, isi_bb, isi_tt, isi_ni, isi_si, isi_ti, isi_li, isi_di, isi_ll, scal_ii, scal_bb, sz0, sz1, sz2, sz3, sz4, List.map_cons, List.map_nil, List.length_cons, List.length_nil, List.replicate, List.cons_append, List.nil_append, List.append_nil, List.getElem?_cons_zero, List.getElem?_cons_succ, List.set_cons_zero, List.set_cons_succ, Option.some.injEq, V.int.injEq, V.bl.injEq, V.ref.injEq, V.ty.injEq, List.cons.injEq, and_true, true_and, exists_eq_left, exists_eq_left', exists_and_left, exists_and_right, exists_eq, exists_eq', and_assoc, Nat.reduceAdd, Nat.reduceSub, Bool.not_true, Bool.not_false, Bool.false_eq_true, if_true, if_false, reduceIte, Nat.zero_add, decide_true, decide_false, selC, comp_K, tYes, Option.join_some, rIxTH, rIxLH, rLenH, rIsiF, at0, at1, at2, at3, at4, at5, at6, at7, at8, HO.tup.injEq, HO.lst.injEq, reduceCtorEq, false_or, or_false, tyF_non, tyF_bl, tyF_int, tyF_str, exists_const, Int.reduceAdd, Int.reduceMul, Int.reduceSub, gSub, rSetL, tSl, tPart, tNoPart, rSlH, upd_same, upd_upd, rIntB, rListH, tBM, tBM0, rAppend, rClear, tPar, gTupH]
    rw [List.take_of_length_le (Nat.le_of_eq hs.1.symm)] at hq
    exact k D zs H2 hD g2 hD2 hz hq
def sp_corners (tb : Addr) (lp : Pos) (ql : Str) : Sp := fun vs H Q _ => ∃ (l : Addr) (ys : List V) (ss : List (Q3 × Q3)), vs = [.ref l] ∧ H l = some (.lst ys) ∧ ys.length ≤ 144 ∧ LR S2H H ys ss ∧ (∀ qs : List Q3, qs.Nodup → (∀ p, p ∈ qs → p ∈ ss.flatMap fun s => [s.1, s.2]) → qs.length < 64) ∧ LamTab H tb lp ql ∧
  ∀ D zs (os : List Q3) H', H D = none → SameT tb H H' → LamTab H' tb lp ql → H' D = some (.lst zs) → LR QH H' zs os → OrdOf os (ss.flatMap fun s => [s.1, s.2]) → Q (.ref D) H'
theorem ok_corners_of (T : Txt K mg ad fd) (hK : K.In base) (hB : base.BuiltinsAt mg (ad 18)) : FnOk P w K mg base CX0 4 (ad 3) (fd 3) ["land"] (sp_corners (ad 18) lposB qlB) := by
  refine T.corners_of.fn.ok sc_corners_of (fun vs H Q E h => ?_) (fun cdv A outer s H vs Q E hr h => ?_)
  · obtain ⟨l, ys, ss, rfl, _⟩ := h
    rfl
  obtain ⟨l, ys, ss, rfl, hl, hn, hs, few, lt, k⟩ := h
  have qpss_one := @pss_one
  have qps_ret := @ps_ret
  have qpe_call := @pe_call
  have qpa1 := @pa1
  have qpv := @pv
  generalize @L2.PE = QE, @L2.PT = QT, @L2.PW = QW, @L2.PA = QA, @L2.PS = QS, @L2.PSs = QSs, @L2.PG = QG, @L2.PGs = QGs, @L2.PI = QI, @L2.PO = QO, @L2.PIf = QIf at qpss_one qps_ret qpe_call qpa1 qpv ⊢
  refine ⟨_,
    (qpss_one (qps_ret (qpe_call (ok_in_order T hK hB) (hr.mono (by decide)) rfl T.in_order.mg T.in_order.fn.kp T.in_order.bn .nil pass0 (qpa1 (qpe_call (ok_ends_of T) (hr.mono (by decide)) rfl T.ends_of.mg T.ends_of.fn.kp T.ends_of.bn .nil pass0 (qpa1 (qpv 0) ns_Name)) ns_Call))))
    , ?_⟩
  clear  qpss_one qps_ret qpe_call qpa1 qpv QE QT QW QA QS QSs QG QGs QI QO QIf
  simp only [tSeq, tNext, tRet, tRetN, tIfS, tAsg, gName, tDrop, tVar, tC, tOp, tUn, rI, rI0, rU, rEq, rNe, tTest, tB, tNot, tAnd, tOr, tAndV, tOrV, tNotV, tIf, tCB, tCall, tNil, tCons, tTup, tLst, gTup, gCons, gNil, L2.start, rIsi, rIxT, rIxL, cx_K, tyN_non, tyN_bl, tyN_int, tyN_str, isi_ii, isi_ib, isi_it, isi_il, isi_bi, isi_bb, isi_tt, isi_ni, isi_si, isi_ti, isi_li, isi_di, isi_ll, scal_ii, scal_bb, sz0, sz1, sz2, sz3, sz4, List.map_cons, List.map_nil, List.length_cons, List.length_nil, List.replicate, List.cons_append, List.nil_append, List.append_nil, List.getElem?_cons_zero, List.getElem?_cons_succ, List.set_cons_zero, List.set_cons_succ, Option.some.injEq, V.int.injEq, V.bl.injEq, V.ref.injEq, V.ty.injEq, List.cons.injEq, and_true, true_and, exists_eq_left, exists_eq_left', exists_and_left, exists_and_right, exists_eq, exists_eq', and_assoc, Nat.reduceAdd, Nat.reduceSub, Bool.not_true, Bool.not_false, Bool.false_eq_true, if_true, if_false, reduceIte, Nat.zero_add, decide_true, decide_false, selC, comp_K, tYes, Option.join_some, rIxTH, rIxLH, rLenH, rIsiF, at0, at1, at2, at3, at4, at5, at6, at7, at8, HO.tup.injEq, HO.lst.injEq, reduceCtorEq, false_or, or_false, tyF_non, tyF_bl, tyF_int, tyF_str, exists_const, Int.reduceAdd, Int.reduceMul, Int.reduceSub, gSub, rSetL, tSl, tPart, tNoPart, rSlH, upd_same, upd_upd, rIntB, rListH, tBM, tBM0, rAppend, rClear, tPar, gTupH]
  refine ⟨l, ys, ss, rfl, hl, hn, hs, fun D zs H1 hD g1 hD1 n1 hq => ?_⟩
  refine ⟨D, zs, _, rfl, hD1, by omega, hq, few, lt.same g1, fun F fs os H2 hF st lt2 hF2 ho oo => ?_⟩
  exact k F fs os H2 (g1.free hF) ((SameT.of g1).trans st) lt2 hF2 ho oo
def dQ (r : Q3) : PyData := .tuple [.int r.x, .int r.y, .int r.w]
theorem rd_q {K : PySem.W.Frag} {H : Hp} {p : Addr} {r : Q3} (h : QH H p r) : RdD K H (dQ r) (.ref p) := by
  unfold dQ
  rw [RdD]
  refine ⟨p, _, rfl, .of h.1, ?_⟩
  rw [RdDs]
  refine ⟨_, _, rfl, by rw [RdD], ?_⟩
  rw [RdDs]
  refine ⟨_, _, rfl, by rw [RdD], ?_⟩
  rw [RdDs]
  refine ⟨_, _, rfl, by rw [RdD], ?_⟩
  rw [RdDs]
theorem rd_qs {K : PySem.W.Frag} {H : Hp} : ∀ {zs : List V} {F : List Q3}, LR QH H zs F → RdDs K H (F.map dQ) zs
  | [], [], _ => by rw [List.map_nil, RdDs]
  | [], _ :: _, h => by cases h.1
  | v :: zs, F, h => by
    obtain ⟨a, as, rfl, ⟨p, rfl, hp⟩, t⟩ := h.cons_inv
    rw [List.map_cons, RdDs]
    exact ⟨_, _, rfl, rd_q hp, rd_qs t⟩
theorem rd_ql {K : PySem.W.Frag} {H : Hp} {l : Addr} {zs : List V} {F : List Q3} (h : H l = some (.lst zs)) (hz : LR QH H zs F) : RdD K H (.list (F.map dQ)) (.ref l) := by
  rw [RdD]
  exact ⟨l, _, rfl, .of h, rd_qs hz⟩
theorem dQ_lay (r : Q3) : (dQ r).canLay0 = true ∧ (dQ r).depth ≤ 3 := by
  simp [dQ, PyData.canLay0, PyData.canLayAll0, PyData.depth, PyData.depthAll]
theorem dQs_lay (F : List Q3) : PyData.canLayAll0 (F.map dQ) = true ∧ PyData.depthAll (F.map dQ) ≤ 3 := by
  induction F with
  | nil => exact ⟨rfl, by simp [PyData.depthAll]⟩
  | cons r F ih =>
    have h := dQ_lay r
    rw [List.map_cons]
    constructor
    · rw [PyData.canLayAll0, h.1, ih.1]; rfl
    · rw [PyData.depthAll]
      have := h.2
      have := ih.2
      omega
theorem dQs_shaped (F : List Q3) : SeqAt.shaped (.list (F.map dQ)) = true := by
  have h := dQs_lay F
  unfold SeqAt.shaped
  simp [PyData.canLay0, PyData.depth, h.1]
  have := h.2
  omega
theorem dQ_eqv (a b : Q3) : PyData.eqv (dQ a) (dQ b) = decide (a = b) := by
  rw [Bool.eq_iff_iff]
  obtain ⟨x, y, w⟩ := a
  obtain ⟨x', y', w'⟩ := b
  simp [dQ, PyData.eqv, PyData.eqvAll]
theorem dQs_eqvAll : ∀ F G : List Q3, PyData.eqvAll (F.map dQ) (G.map dQ) = decide (F = G)
  | [], [] => by simp [PyData.eqvAll]
  | [], _ :: _ => by simp [PyData.eqvAll]
  | _ :: _, [] => by simp [PyData.eqvAll]
  | a :: F, b :: G => by
    rw [List.map_cons, List.map_cons, PyData.eqvAll, dQ_eqv, dQs_eqvAll F G]
    rw [Bool.eq_iff_iff]
    simp
theorem dQs_eqv (F G : List Q3) : PyData.eqv (.list (F.map dQ)) (.list (G.map dQ)) = decide (F = G) := by
  rw [PyData.eqv, dQs_eqvAll]
def dS (s : Q3 × Q3) : PyData := .tuple [dQ s.1, dQ s.2]
theorem rd_s {K : PySem.W.Frag} {H : Hp} {p : Addr} {s : Q3 × Q3} (h : S2H H p s) : RdD K H (dS s) (.ref p) := by
  obtain ⟨c, d, h1, h2, h3⟩ := h
  unfold dS
  rw [RdD]
  refine ⟨p, _, rfl, .of h1, ?_⟩
  rw [RdDs]
  refine ⟨_, _, rfl, rd_q h2, ?_⟩
  rw [RdDs]
  refine ⟨_, _, rfl, rd_q h3, ?_⟩
  rw [RdDs]
theorem rd_ss {K : PySem.W.Frag} {H : Hp} : ∀ {zs : List V} {F : List (Q3 × Q3)}, LR S2H H zs F → RdDs K H (F.map dS) zs
  | [], [], _ => by rw [List.map_nil, RdDs]
  | [], _ :: _, h => by cases h.1
  | v :: zs, F, h => by
    obtain ⟨a, as, rfl, ⟨p, rfl, hp⟩, t⟩ := h.cons_inv
    rw [List.map_cons, RdDs]
    exact ⟨_, _, rfl, rd_s hp, rd_ss t⟩
theorem rd_sl {K : PySem.W.Frag} {H : Hp} {l : Addr} {zs : List V} {F : List (Q3 × Q3)} (h : H l = some (.lst zs)) (hz : LR S2H H zs F) : RdD K H (.list (F.map dS)) (.ref l) := by
  rw [RdD]
  exact ⟨l, _, rfl, .of h, rd_ss hz⟩
theorem dS_lay (r : Q3 × Q3) : (dS r).canLay0 = true ∧ (dS r).depth ≤ 4 := by
  simp [dS, dQ, PyData.canLay0, PyData.canLayAll0, PyData.depth, PyData.depthAll]
theorem dSs_lay (F : List (Q3 × Q3)) : PyData.canLayAll0 (F.map dS) = true ∧ PyData.depthAll (F.map dS) ≤ 4 := by
  induction F with
  | nil => exact ⟨rfl, by simp [PyData.depthAll]⟩
  | cons r F ih =>
    have h := dS_lay r
    rw [List.map_cons]
    constructor
    · rw [PyData.canLayAll0, h.1, ih.1]; rfl
    · rw [PyData.depthAll]
      have := h.2
      have := ih.2
      omega
theorem dSs_shaped (F : List (Q3 × Q3)) : SeqAt.shaped (.list (F.map dS)) = true := by
  have h := dSs_lay F
  unfold SeqAt.shaped
  simp [PyData.canLay0, PyData.depth, h.1]
  have := h.2
  omega
theorem dSs_self : ∀ F : List (Q3 × Q3), PyData.eqvAll (F.map dS) (F.map dS) = true
  | [] => by simp [PyData.eqvAll]
  | a :: F => by
    have e : PyData.eqv (dS a) (dS a) = true := by
      unfold dS
      rw [PyData.eqv, PyData.eqvAll, PyData.eqvAll, PyData.eqvAll, dQ_eqv, dQ_eqv]
      simp
    rw [List.map_cons, PyData.eqvAll, e, dSs_self F]
    rfl
theorem dSs_eqv (F : List (Q3 × Q3)) : PyData.eqv (.list (F.map dS)) (.list (F.map dS)) = true := by
  rw [PyData.eqv, dSs_self]
theorem nodup_leG {α : Type} [DecidableEq α] : ∀ (F os : List α), F.Nodup → (∀ q, q ∈ F → q ∈ os) → F.length ≤ os.length
  | [], _, _, _ => Nat.zero_le _
  | a :: F, os, nd, h => by
    obtain ⟨n1, n2⟩ := List.nodup_cons.mp nd
    have ha := h a (by simp)
    have := nodup_leG F (os.erase a) n2 fun q hq => (List.mem_erase_of_ne fun (e : q = a) => n1 (e ▸ hq)).mpr (h q (List.mem_cons_of_mem _ hq))
    rw [List.length_erase_of_mem ha] at this
    have : 0 < os.length := List.length_pos_of_mem ha
    simp only [List.length_cons]
    omega
def bxs : List (Int × Int) := (List.range 63).map fun i => (((i % 9 : Nat) : Int), ((i / 9 : Nat) : Int))
theorem mem_bxs {a : Int × Int} (h : Bx a) : a ∈ bxs := by
  obtain ⟨h1, h2, h3, h4⟩ := h
  refine List.mem_map.mpr ⟨a.1.toNat + 9 * a.2.toNat, List.mem_range.mpr (by omega), Prod.ext ?_ ?_⟩
  · show (((a.1.toNat + 9 * a.2.toNat) % 9 : Nat) : Int) = a.1
    omega
  · show (((a.1.toNat + 9 * a.2.toNat) / 9 : Nat) : Int) = a.2
    omega
theorem len_bxs : bxs.length = 63 := by unfold bxs; rw [List.length_map, List.length_range]
theorem few_of {α : Type} [DecidableEq α] (F : Int × Int → α) {qs : List α} (nd : qs.Nodup) (h : ∀ q, q ∈ qs → ∃ a, Bx a ∧ q = F a) : qs.length < 64 := by
  have := nodup_leG qs (bxs.map F) nd fun q hq => by
    obtain ⟨a, ba, e⟩ := h q hq
    exact List.mem_map.mpr ⟨a, mem_bxs ba, e.symm⟩
  rw [List.length_map, len_bxs] at this
  omega
theorem mul_pos' {u c : Int} (hc : 0 < c) (h : 0 < u * c) : 0 < u := by
  rcases Int.lt_trichotomy u 0 with z | z | z
  · have := Int.mul_neg_of_neg_of_pos z hc
    omega
  · rw [z, Int.zero_mul] at h
    omega
  · exact z
theorem mul_zero' {u c : Int} (hc : 0 < c) (h : u * c = 0) : u = 0 := by
  rcases Int.mul_eq_zero.mp h with z | z
  · exact z
  · omega
theorem pt_lt {w : Int} (hw : 0 < w) {a b : Int × Int} (h : lt2 a b = true) : Lt 1 (ptQ a.1 a.2 w) (ptQ b.1 b.2 w) := by
  have hd : ∀ x y z : Int, ((g3 x y w : Nat) : Int) ∣ z → G (G x y) w ∣ z := fun x y z h => by
    rw [← g3_abs] at h
    exact Int.natAbs_dvd.mp h
  have ax := fdiv_of_dvd (hd a.1 a.2 _ (g3_da a.1 a.2 w))
  have ay := fdiv_of_dvd (hd a.1 a.2 _ (g3_db a.1 a.2 w))
  have aw := fdiv_of_dvd (hd a.1 a.2 _ (g3_dc a.1 a.2 w))
  have bx := fdiv_of_dvd (hd b.1 b.2 _ (g3_da b.1 b.2 w))
  have by' := fdiv_of_dvd (hd b.1 b.2 _ (g3_db b.1 b.2 w))
  have bw := fdiv_of_dvd (hd b.1 b.2 _ (g3_dc b.1 b.2 w))
  have pa := g3_gt (x := a.1) (y := a.2) hw
  have pb := g3_gt (x := b.1) (y := b.2) hw
  have cc : 0 < G (G a.1 a.2) w * G (G b.1 b.2) w := Int.mul_pos pa pb
  have eX : dX (ptQ a.1 a.2 w) (ptQ b.1 b.2 w) * (G (G a.1 a.2) w * G (G b.1 b.2) w) = (b.1 - a.1) * w := by
    show (b.1.fdiv (G (G b.1 b.2) w) * w.fdiv (G (G a.1 a.2) w) - a.1.fdiv (G (G a.1 a.2) w) * w.fdiv (G (G b.1 b.2) w)) * _ = _
    have e1 : b.1 * w = (b.1.fdiv (G (G b.1 b.2) w) * G (G b.1 b.2) w) * (w.fdiv (G (G a.1 a.2) w) * G (G a.1 a.2) w) := by rw [bx, aw]
    have e2 : a.1 * w = (a.1.fdiv (G (G a.1 a.2) w) * G (G a.1 a.2) w) * (w.fdiv (G (G b.1 b.2) w) * G (G b.1 b.2) w) := by rw [ax, bw]
    rw [Int.sub_mul b.1, e1, e2]
    generalize b.1.fdiv (G (G b.1 b.2) w) = p1
    generalize a.1.fdiv (G (G a.1 a.2) w) = p2
    generalize w.fdiv (G (G a.1 a.2) w) = p3
    generalize w.fdiv (G (G b.1 b.2) w) = p4
    grind
  have eY : dY (ptQ a.1 a.2 w) (ptQ b.1 b.2 w) * (G (G a.1 a.2) w * G (G b.1 b.2) w) = (b.2 - a.2) * w := by
    show (b.2.fdiv (G (G b.1 b.2) w) * w.fdiv (G (G a.1 a.2) w) - a.2.fdiv (G (G a.1 a.2) w) * w.fdiv (G (G b.1 b.2) w)) * _ = _
    have e1 : b.2 * w = (b.2.fdiv (G (G b.1 b.2) w) * G (G b.1 b.2) w) * (w.fdiv (G (G a.1 a.2) w) * G (G a.1 a.2) w) := by rw [by', aw]
    have e2 : a.2 * w = (a.2.fdiv (G (G a.1 a.2) w) * G (G a.1 a.2) w) * (w.fdiv (G (G b.1 b.2) w) * G (G b.1 b.2) w) := by rw [ay, bw]
    rw [Int.sub_mul b.2, e1, e2]
    generalize b.2.fdiv (G (G b.1 b.2) w) = p1
    generalize a.2.fdiv (G (G a.1 a.2) w) = p2
    generalize w.fdiv (G (G a.1 a.2) w) = p3
    generalize w.fdiv (G (G b.1 b.2) w) = p4
    grind
  unfold Lt LP
  rw [Int.one_mul, Int.one_mul]
  have h' : a.1 < b.1 ∨ (a.1 = b.1 ∧ a.2 < b.2) := by
    rw [← ltK_lt2] at h
    unfold ltK at h
    by_cases c1 : a.1 = b.1
    · rw [if_pos c1] at h
      by_cases c2 : a.2 = b.2
      · rw [if_pos c2] at h
        cases h
      · rw [if_neg c2] at h
        exact .inr ⟨c1, of_decide_eq_true h⟩
    · rw [if_neg c1] at h
      exact .inl (of_decide_eq_true h)
  rcases h' with h' | ⟨h1, h2⟩
  · exact .inl (mul_pos' cc (by rw [eX]; exact Int.mul_pos (by omega) hw))
  · refine .inr ⟨mul_zero' cc (by rw [eX, h1, Int.sub_self, Int.zero_mul]), mul_pos' cc (by rw [eY]; exact Int.mul_pos (by omega) hw)⟩
def sp_lawT (K : PySem.W.Frag) (ts : List Addr) : Sp := fun vs H Q _ => ∃ (a : Addr) (ns : List Int), vs = [.ref a] ∧ SqL K H a (ns.map V.int) ∧ ns.length ≤ 63 ∧ (∀ b, b ∈ ts → LamTab H b lposB qlB) ∧ ∀ H', Q (.bl true) H'
theorem lamTab_new {H : Hp} {b : Addr} {pos : Pos} {q : Str} (h : H b = some (.tbl #[])) : LamTab H b pos q := ⟨#[], h, by trivial, .inl rfl⟩
theorem lt_put {H : Hp} {P F : Addr} {pos : Pos} {q : Str} {ys : List V} {o : HO} (h : LamTab H P pos q) (hF : H F = some (.lst ys)) : LamTab (upd H F o) P pos q := by
  obtain ⟨ps, h1, h2, h3⟩ := h
  refine ⟨ps, by rw [upd_ne (ne_of h1 hF fun z => nomatch z)]; exact h1, h2, h3.imp id fun ⟨c, e, hc⟩ => ⟨c, e, by rw [upd_ne (ne_of hc hF fun z => nomatch z)]; exact hc⟩⟩
theorem ord_uniq : ∀ {a b : List Q3}, a.Pairwise (Lt 1) → b.Pairwise (Lt 1) → (∀ p, p ∈ a ↔ p ∈ b) → a = b
  | [], [], _, _, _ => rfl
  | [], y :: b, _, _, h => by have := (h y).mpr (by simp); cases this
  | x :: a, [], _, _, h => by have := (h x).mp (by simp); cases this
  | x :: a, y :: b, ha, hb, h => by
    obtain ⟨a1, a2⟩ := List.pairwise_cons.mp ha
    obtain ⟨b1, b2⟩ := List.pairwise_cons.mp hb
    have e : x = y := by
      rcases List.mem_cons.mp ((h x).mp (by simp)) with e | hx
      · exact e
      · rcases List.mem_cons.mp ((h y).mpr (by simp)) with e | hy
        · exact e.symm
        · exact (lt_asym (a1 y hy) (b1 x hx)).elim
    subst e
    rw [ord_uniq a2 b2 fun p => ⟨fun hp => ?_, fun hp => ?_⟩]
    · rcases List.mem_cons.mp ((h p).mp (List.mem_cons_of_mem _ hp)) with e | hp'
      · rw [e] at hp; exact (lt_irr (a1 x hp)).elim
      · exact hp'
    · rcases List.mem_cons.mp ((h p).mpr (List.mem_cons_of_mem _ hp)) with e | hp'
      · rw [e] at hp; exact (lt_irr (b1 x hp)).elim
      · exact hp'
def KsOf (kvs : List (List Key × V)) (ks S : List (Int × Int)) : Prop := kvs.map Prod.fst = ks.map kP ∧ ks.Nodup ∧ ∀ k, k ∈ ks ↔ k ∈ S
theorem KsOf.put {kvs : List (List Key × V)} {ks S : List (Int × Int)} {a : Int × Int} {v : V} (h : KsOf kvs ks S) : ∃ ks', KsOf (putK kvs (kP a) v) ks' (S ++ [a]) := by
  obtain ⟨h1, h2, h3⟩ := h
  by_cases ha : a ∈ ks
  · have hm : kP a ∈ kvs.map Prod.fst := by rw [h1]; exact List.mem_map.mpr ⟨a, ha, rfl⟩
    obtain ⟨kv, k1, k2⟩ := List.mem_map.mp hm
    have an : (kvs.any fun kv => decide (kv.1 = kP a)) = true := List.any_eq_true.mpr ⟨kv, k1, decide_eq_true k2⟩
    refine ⟨ks, ?_, h2, fun k => ?_⟩
    · unfold putK
      rw [if_pos an, List.map_map, ← h1]
      refine List.map_congr_left fun kv _ => ?_
      show (if kv.1 = kP a then (kv.1, v) else kv).1 = kv.1
      split <;> rfl
    · rw [List.mem_append, List.mem_singleton, h3]
      exact ⟨.inl, fun z => z.elim id fun z => by rw [z]; exact (h3 a).mp ha⟩
  · have an : ¬ (kvs.any fun kv => decide (kv.1 = kP a)) = true := fun z => by
      obtain ⟨kv, k1, k2⟩ := List.any_eq_true.mp z
      have hm : kP a ∈ kvs.map Prod.fst := List.mem_map.mpr ⟨kv, k1, of_decide_eq_true k2⟩
      rw [h1] at hm
      obtain ⟨b, b1, b2⟩ := List.mem_map.mp hm
      rw [kP_inj b2] at b1
      exact ha b1
    refine ⟨ks ++ [a], ?_, List.nodup_append.mpr ⟨h2, List.pairwise_singleton _ _, fun x hx y hy e => ?_⟩, fun k => ?_⟩
    · unfold putK
      rw [if_neg an, List.map_append, List.map_append, h1]
      rfl
    · rw [List.mem_singleton.mp hy] at e
      rw [e] at hx
      exact ha hx
    · rw [List.mem_append, List.mem_append, h3]
theorem lr_sorted {H : Hp} {bs : List Addr} {ks : List (Int × Int)} {pp : Array Nat} (lb : bs.length = ks.length) (h : ∀ (j : Nat) b k, bs[j]? = some b → ks[j]? = some k → P2H H b k) (or : Ord ks.length pp) : LR P2H H (pp.toList.map fun i => (bs.map V.ref).getD i .non) (pp.toList.map fun i => ks.getD i (0, 0)) := by
  refine ⟨by rw [List.length_map, List.length_map], fun j v hv => ?_⟩
  rw [List.getElem?_map] at hv
  cases e : pp.toList[j]? with
  | none => rw [e] at hv; cases hv
  | some i =>
    rw [e] at hv
    have ev : (bs.map V.ref).getD i .non = v := by simpa using hv
    have hi : i < ks.length := List.mem_range.mp (or.mem_iff.mp (List.mem_of_getElem? e))
    have hb : bs[i]? = some (bs[i]'(by omega)) := List.getElem?_eq_getElem (by omega)
    have hk : ks[i]? = some (ks[i]'hi) := List.getElem?_eq_getElem hi
    refine ⟨bs[i]'(by omega), ks[i]'hi, ?_, ?_, h i _ _ hb hk⟩
    · rw [← ev, List.getD_eq_getElem?_getD, List.getElem?_map, hb]
      rfl
    · rw [List.getElem?_map, e, Option.map_some, List.getD_eq_getElem?_getD, hk]
      rfl
theorem mw_bx {f : Fr} {H : Hp} {ys : List V} {ws : List E2} (h : LR (MwH f) H ys ws) {e : E2} (he : e ∈ ws) : Bx e.1 ∧ Bx e.2 := by
  obtain ⟨j, hj⟩ := List.mem_iff_getElem?.mp he
  have hj' : j < ys.length := by rw [h.1]; exact (List.getElem?_eq_some_iff.mp hj).1
  obtain ⟨b, r, _, e2, hr⟩ := h.at hj'
  rw [hj] at e2
  cases e2
  exact hr.2
theorem mem_ends {f : Fr} {ws : List E2} {q : Int × Int} (h : q ∈ ws.flatMap fun e => [mv f e.1, mv f e.2]) : ∃ e, e ∈ ws ∧ (q = mv f e.1 ∨ q = mv f e.2) := by
  obtain ⟨e, h1, h2⟩ := List.mem_flatMap.mp h
  exact ⟨e, h1, by simpa using h2⟩
theorem mem_told {f : Fr} {ws : List E2} {q : Q3} : q ∈ (ws.map (tdF f)).flatMap (fun s => [s.1, s.2]) ↔ ∃ e, e ∈ ws ∧ (q = pqF f e.1 ∨ q = pqF f e.2) := by
  rw [List.mem_flatMap]
  constructor
  · rintro ⟨s, h1, h2⟩
    obtain ⟨e, e1, e2⟩ := List.mem_map.mp h1
    subst e2
    exact ⟨e, e1, by simpa [tdF] using h2⟩
  · rintro ⟨e, e1, e2⟩
    exact ⟨_, List.mem_map.mpr ⟨e, e1, rfl⟩, by simpa [tdF] using e2⟩
def ptW (w : Int) (k : Int × Int) : Q3 := ptQ k.1 k.2 w
theorem due_is {f : Fr} (hw : 0 < f.w) {ws : List E2} {ks os2 : List (Int × Int)} {os : List Q3} (km : ∀ k, k ∈ ks ↔ k ∈ ws.flatMap fun e => [mv f e.1, mv f e.2]) (pm : os2.Perm ks) (pw : os2.Pairwise fun a b => lt2 a b = true) (oo : OrdOf os ((ws.map (tdF f)).flatMap fun s => [s.1, s.2])) : os = os2.map (ptW f.w) := by
  refine ord_uniq oo.1 (List.pairwise_map.mpr (pw.imp fun h => pt_lt hw h)) fun p => ?_
  rw [oo.2.1, mem_told, List.mem_map]
  constructor
  · rintro ⟨e, e1, e2⟩
    rcases e2 with e2 | e2
    · exact ⟨mv f e.1, pm.mem_iff.mpr ((km _).mpr (List.mem_flatMap.mpr ⟨e, e1, by simp⟩)), e2.symm⟩
    · exact ⟨mv f e.2, pm.mem_iff.mpr ((km _).mpr (List.mem_flatMap.mpr ⟨e, e1, by simp⟩)), e2.symm⟩
  · rintro ⟨k, k1, k2⟩
    obtain ⟨e, e1, e2⟩ := mem_ends ((km k).mp (pm.mem_iff.mp k1))
    refine ⟨e, e1, ?_⟩
    rcases e2 with e2 | e2
    · exact .inl (by rw [← k2, e2]; rfl)
    · exact .inr (by rw [← k2, e2]; rfl)
theorem nodup_le3 (qs os : List Q3) (nd : qs.Nodup) (h : ∀ p, p ∈ qs → p ∈ os) : qs.length ≤ os.length := nodup_leG qs os nd h
theorem three_is {os : List Q3} (oo : OrdOf os (([(⟨0, 0, 1⟩, ⟨2, 1, 1⟩), (⟨1, 3, 1⟩, ⟨0, 0, 1⟩), (⟨2, 1, 1⟩, ⟨1, 3, 1⟩)] : List (Q3 × Q3)).flatMap fun s => [s.1, s.2])) : os = [⟨0, 0, 1⟩, ⟨1, 3, 1⟩, ⟨2, 1, 1⟩] := by
  refine ord_uniq oo.1 (by simp [Lt, LP, dX, dY]) fun p => ?_
  rw [oo.2.1]
  simp
  grind
theorem ok_law (T : Txt K mg ad fd) (hK : K.In base) (hB : base.BuiltinsAt mg (ad 18)) : FnOk P w K mg base CX0 5 (ad 16) (fd 16) ["_law_script"] (sp_lawT K [ad 18]) := by
  refine T.law.fn.ok sc_law (fun vs H Q E h => ?_) (fun cdv A outer s H vs Q E hr h => ?_)
  · obtain ⟨a, ns, rfl, _⟩ := h
    rfl
  obtain ⟨a0, ns, rfl, hS, hlen, lts, k⟩ := h
  have lt := lts _ (List.mem_singleton.mpr rfl)
  clear lts
  have qpss15 := @pss15
  have qps_set := @ps_set
  have qpe_call := @pe_call
  have qpa3 := @pa3
  have qpv := @pv
  have qpe_op := @pe_op
  have qpe_int := @pe_int
  have qpa2 := @pa2
  have qpa1 := @pa1
  have qpe_dnewT := @pe_dnewT
  have qps_for := @ps_for
  have qpi_list := @pi_list
  have qpg_tupH := @pg_tupH
  have qpgs_cons := @pgs_cons
  have qpg_name := @pg_name
  have qpgs_nil := @pgs_nil
  have qpss2 := @pss2
  have qps_dput := @ps_dput
  have qpe_bl := @pe_bl
  have qps_setC := @ps_setC
  unfold L2.CompBody at qps_setC
  have qpe_callB := @pe_callB
  have qpif_nil := @pif_nil
  have qpe_ix := @pe_ix
  have qpe_callTy := @pe_callTy
  have qps_if := @ps_if
  have qPWpt := @PW.pt
  have qpw_or := @pw_or
  have qpt_cmpR := @pt_cmpR
  have qpt_not := @pt_not
  have qpt_val := @pt_val
  have qpe_bltn := @pe_bltn
  have qpw_or1 := @pw_or1
  have qpss_one := @pss_one
  have qps_ret := @ps_ret
  have qpss_nil := @pss_nil
  have qpe_lst := @pe_lst
  have qpe_tup := @pe_tup
  have qps_expr := @ps_expr
  have qpe_bm0 := @pe_bm0
  have qpe_bm := @pe_bm
  have qpe_cmpR := @pe_cmpR
  generalize @L2.PE = QE, @L2.PT = QT, @L2.PW = QW, @L2.PA = QA, @L2.PS = QS, @L2.PSs = QSs, @L2.PG = QG, @L2.PGs = QGs, @L2.PI = QI, @L2.PO = QO, @L2.PIf = QIf at qpss15 qps_set qpe_call qpa3 qpv qpe_op qpe_int qpa2 qpa1 qpe_dnewT qps_for qpi_list qpg_tupH qpgs_cons qpg_name qpgs_nil qpss2 qps_dput qpe_bl qps_setC qpe_callB qpif_nil qpe_ix qpe_callTy qps_if qPWpt qpw_or qpt_cmpR qpt_not qpt_val qpe_bltn qpw_or1 qpss_one qps_ret qpss_nil qpe_lst qpe_tup qps_expr qpe_bm0 qpe_bm qpe_cmpR ⊢
  refine ⟨_,
    (qpss15
      (qps_set (i := 1) sc_law.nd rfl (Or.inl rfl) (qpe_call (ok_law_cells T) (hr.mono (by decide)) rfl T.law_cells.mg T.law_cells.fn.kp T.law_cells.bn .nil pass0 (qpa3 (qpv 0) ns_Name (qpe_op op_add qpe_int (qpe_op op_mod (qpe_call (ok_law_cell T) (hr.mono (by decide)) rfl T.law_cell.mg T.law_cell.fn.kp T.law_cell.bn .nil pass0 (qpa2 (qpv 0) ns_Name qpe_int ns_Constant)) qpe_int)) ns_BinOp (qpe_op op_add qpe_int (qpe_op op_mod (qpe_call (ok_law_cell T) (hr.mono (by decide)) rfl T.law_cell.mg T.law_cell.fn.kp T.law_cell.bn .nil pass0 (qpa2 (qpv 0) ns_Name qpe_int ns_Constant)) qpe_int)) ns_BinOp)))
      (qps_set (i := 2) sc_law.nd rfl (Or.inr rfl) (qpe_call (ok_law_frame T) (hr.mono (by decide)) rfl T.law_frame.mg T.law_frame.fn.kp T.law_frame.bn .nil pass0 (qpa1 (qpv 0) ns_Name)))
      (qps_set (i := 3) sc_law.nd rfl (Or.inl rfl) (qpe_call (ok_law_land T) (hr.mono (by decide)) rfl T.law_land.mg T.law_land.fn.kp T.law_land.bn .nil pass0 (qpa2 (qpv 1) ns_Name (qpv 2) ns_Name)))
      (qps_set (i := 4) sc_law.nd rfl (Or.inl rfl) qpe_dnewT)
      (qps_for PassesOwn.never rfl (qpi_list (qpv 3)) (qpg_tupH (n := 2) rfl (qpgs_cons (qpg_name (i := 5) sc_law.nd rfl (Or.inl rfl)) (qpgs_cons (qpg_name (i := 6) sc_law.nd rfl (Or.inl rfl)) qpgs_nil))) (qpss2
      (qps_dput (hu_of hr) (qpv 4) (qpv 5) qpe_bl rfl)
      (qps_dput (hu_of hr) (qpv 4) (qpv 6) qpe_bl rfl)))
      (qps_setC (i := 7) sc_law.nd rfl (Or.inl rfl) (dsc := defScope s_law) (N := ["_law_script", "_law_cells_here", "_law_frame_here", "_law_ways", "_law_ends_here", "_law_first", "_law_last", "_law_due", "_law_land_here", "_law_handed", "_law_found", "_law_other"]) (own := ["_law_x", "_law_y"]) (ix := [2]) rfl rfl rfl ⟨rfl, by decide +kernel, by decide +kernel, by decide +kernel, by decide +kernel⟩ (qpi_list (qpe_callB (call_sortD rfl (hu100 hr)) rfl T.b_sorted bt_sorted (qpa1 (qpv 4) ns_Name))) (fun cl C fp s2 H2 xe => ⟨(qpg_tupH (n := 2) rfl (qpgs_cons (qpg_name (i := 0) (show List.Nodup (["_law_x", "_law_y", "_law_frame_here"] : List Str) from by decide +kernel) rfl (Or.inl rfl) (Or.inr rfl)) (qpgs_cons (qpg_name (i := 1) (show List.Nodup (["_law_x", "_law_y", "_law_frame_here"] : List Str) from by decide +kernel) rfl (Or.inl rfl) (Or.inr rfl)) qpgs_nil))), qpif_nil, (qpe_call (ok_law_point T) (hr.mono (by decide)) rfl T.law_point.mg T.law_point.fn.kp T.law_point.bn .nil pass0 (qpa3 (qpv 0) ns_Name (qpv 1) ns_Name (qpe_ix ix_listH (qpv 2) qpe_int (fun _ _ => rfl)) ns_Subscript))⟩))
      (qps_set (i := 8) sc_law.nd rfl (Or.inl rfl) (qpe_call (ok_law_told T) (hr.mono (by decide)) rfl T.law_told.mg T.law_told.fn.kp T.law_told.bn .nil pass0 (qpa2 (qpv 3) ns_Name (qpe_ix ix_listH (qpv 2) qpe_int (fun _ _ => rfl)) ns_Subscript)))
      (qps_set (i := 9) sc_law.nd rfl (Or.inl rfl) (qpe_callTy call_listH rfl T.b_list bt_list (qpa1 (qpv 8) ns_Name)))
      (qps_set (i := 10) sc_law.nd rfl (Or.inl rfl) (qpe_call (ok_corners_of T hK hB) (hr.mono (by decide)) rfl T.corners_of.mg T.corners_of.fn.kp T.corners_of.bn .nil pass0 (qpa1 (qpv 9) ns_Name)))
      (qps_if (qPWpt (qpw_or (qpt_cmpR (op_neD (hu64 hr)) (qpv 9) (qpv 8) (nomark _)) (qpw_or (qpt_not (qpt_val (qpe_callB (isiF call_isi_list) rfl T.b_isinstance bt_isinstance (qpa2 (qpv 10) ns_Name (qpe_bltn (v := .ty "list") rfl T.b_list bt_list rfl) ns_Name)))) (qpw_or1 (qpt_cmpR (op_neD (hu64 hr)) (qpv 10) (qpv 7) (nomark _)))))) (qpss_one (qps_ret qpe_bl)) qpss_nil)
      (qps_set (i := 11) sc_law.nd rfl (Or.inl rfl) (qpe_call (ok_corners_of T hK hB) (hr.mono (by decide)) rfl T.corners_of.mg T.corners_of.fn.kp T.corners_of.bn .nil pass0 (qpa1 (qpe_lst (qpa3 (qpe_tup (qpa2 (qpe_tup (qpa3 qpe_int ns_Constant qpe_int ns_Constant qpe_int ns_Constant)) ns_Tuple (qpe_tup (qpa3 qpe_int ns_Constant qpe_int ns_Constant qpe_int ns_Constant)) ns_Tuple)) ns_Tuple (qpe_tup (qpa2 (qpe_tup (qpa3 qpe_int ns_Constant qpe_int ns_Constant qpe_int ns_Constant)) ns_Tuple (qpe_tup (qpa3 qpe_int ns_Constant qpe_int ns_Constant qpe_int ns_Constant)) ns_Tuple)) ns_Tuple (qpe_tup (qpa2 (qpe_tup (qpa3 qpe_int ns_Constant qpe_int ns_Constant qpe_int ns_Constant)) ns_Tuple (qpe_tup (qpa3 qpe_int ns_Constant qpe_int ns_Constant qpe_int ns_Constant)) ns_Tuple)) ns_Tuple)) ns_List)))
      (qps_expr (qpe_bm0 PySem.F.plainAttrs_list PySem.F.slot_list_clear PySem.F.type_list_clear mt_clear (qpv 9)))
      (qps_if (qPWpt (qpw_or (qpt_cmpR (op_neD (hu64 hr)) (qpv 11) (qpe_lst (qpa3 (qpe_tup (qpa3 qpe_int ns_Constant qpe_int ns_Constant qpe_int ns_Constant)) ns_Tuple (qpe_tup (qpa3 qpe_int ns_Constant qpe_int ns_Constant qpe_int ns_Constant)) ns_Tuple (qpe_tup (qpa3 qpe_int ns_Constant qpe_int ns_Constant qpe_int ns_Constant)) ns_Tuple)) (nomark _)) (qpw_or1 (qpt_cmpR (op_neD (hu64 hr)) (qpv 10) (qpv 7) (nomark _))))) (qpss_one (qps_ret qpe_bl)) qpss_nil)
      (qps_expr (qpe_bm PySem.F.plainAttrs_list PySem.F.slot_list_append PySem.F.type_list_append mt_append (qpv 10) (qpa1 (qpe_tup (qpa3 qpe_int ns_Constant qpe_int ns_Constant qpe_int ns_Constant)) ns_Tuple)))
      (qps_ret (qpe_cmpR (op_eqD (hu64 hr)) (qpe_call (ok_corners_of T hK hB) (hr.mono (by decide)) rfl T.corners_of.mg T.corners_of.fn.kp T.corners_of.bn .nil pass0 (qpa1 (qpv 8) ns_Name)) (qpv 7) (nomark _))))
    , ?_⟩
  clear  qpss15 qps_set qpe_call qpa3 qpv qpe_op qpe_int qpa2 qpa1 qpe_dnewT qps_for qpi_list qpg_tupH qpgs_cons qpg_name qpgs_nil qpss2 qps_dput qpe_bl qps_setC qpe_callB qpif_nil qpe_ix qpe_callTy qps_if qPWpt qpw_or qpt_cmpR qpt_not qpt_val qpe_bltn qpw_or1 qpss_one qps_ret qpss_nil qpe_lst qpe_tup qps_expr qpe_bm0 qpe_bm qpe_cmpR QE QT QW QA QS QSs QG QGs QI QO QIf
  simp only [tSeq, tNext, tRet, tRetN, tIfS, tAsg, gName, tDrop, tVar, tC, tOp, tUn, rI, rI0, rU, rEq, rNe, tTest, tB, tNot, tAnd, tOr, tAndV, tOrV, tNotV, tIf, tCB, tCall, tNil, tCons, tTup, tLst, gTup, gCons, gNil, L2.start, rIsi, rIxT, rIxL, cx_K, tyN_non, tyN_bl, tyN_int, tyN_str, isi_ii, isi_ib, isi_it, isi_il, isi_bi, isi_bb, isi_tt, isi_ni, isi_si, isi_ti, isi_li, isi_di, isi_ll, scal_ii, scal_bb, sz0, sz1, sz2, sz3, sz4, List.map_cons, List.map_nil, List.length_cons, List.length_nil, List.replicate, List.cons_append, List.nil_append, List.append_nil, List.getElem?_cons_zero, List.getElem?_cons_succ, List.set_cons_zero, List.set_cons_succ, Option.some.injEq, V.int.injEq, V.bl.injEq, V.ref.injEq, V.ty.injEq, List.cons.injEq, and_true, true_and, exists_eq_left, exists_eq_left', exists_and_left, exists_and_right, exists_eq, exists_eq', and_assoc, Nat.reduceAdd, Nat.reduceSub, Bool.not_true, Bool.not_false, Bool.false_eq_true, if_true, if_false, reduceIte, Nat.zero_add, decide_true, decide_false, selC, comp_K, tYes, Option.join_some, rIxTH, rIxLH, rLenH, rIsiF, at0, at1, at2, at3, at4, at5, at6, at7, at8, HO.tup.injEq, HO.lst.injEq, reduceCtorEq, false_or, or_false, tyF_non, tyF_bl, tyF_int, tyF_str, exists_const, Int.reduceAdd, Int.reduceMul, Int.reduceSub, gSub, rSetL, tSl, tPart, tNoPart, rSlH, upd_same, upd_upd, rIntB, rListH, tBM, tBM0, rAppend, rClear, tPar, gTupH]
  refine ⟨a0, ns, 0, rfl, hS, by decide, by decide, fun v0 => ⟨v0, rfl, by decide, a0, ns, 1, rfl, hS, by decide, by decide, fun v1 => ⟨v1, rfl, by decide, ?_⟩⟩⟩
  refine ⟨a0, ns, _, _, rfl, hS, by omega, by omega, by omega, by omega, fun C zs cs H1 hC g1 hC1 nz hz => ?_⟩
  refine ⟨a0, ns, rfl, g1.seq hS, fun M f H2 hM g2 hf => ?_⟩
  refine ⟨C, M, zs, cs, f, rfl, g2 _ _ hC1, nz, hz.ts c3_ts (ts_same g2), hf, fun W ys ws H3 hW g3 hW3 ny hw => ?_⟩
  have g03 := (g1.trans g2).trans g3
  have hf3 := hf.same g3
  have lt3 := lt.same g03
  simp only [tDNewT, tSeq, tNext, tRet, tRetN, tIfS, tAsg, gName, tDrop, tVar, tC, tOp, tUn, rI, rI0, rU, rEq, rNe, tTest, tB, tNot, tAnd, tOr, tAndV, tOrV, tNotV, tIf, tCB, tCall, tNil, tCons, tTup, tLst, gTup, gCons, gNil, L2.start, rIsi, rIxT, rIxL, cx_K, tyN_non, tyN_bl, tyN_int, tyN_str, isi_ii, isi_ib, isi_it, isi_il, isi_bi, isi_bb, isi_tt, isi_ni, isi_si, isi_ti, isi_li, isi_di, isi_ll, scal_ii, scal_bb, sz0, sz1, sz2, sz3, sz4, List.map_cons, List.map_nil, List.length_cons, List.length_nil, List.replicate, List.cons_append, List.nil_append, List.append_nil, List.getElem?_cons_zero, List.getElem?_cons_succ, List.set_cons_zero, List.set_cons_succ, Option.some.injEq, V.int.injEq, V.bl.injEq, V.ref.injEq, V.ty.injEq, List.cons.injEq, and_true, true_and, exists_eq_left, exists_eq_left', exists_and_left, exists_and_right, exists_eq, exists_eq', and_assoc, Nat.reduceAdd, Nat.reduceSub, Bool.not_true, Bool.not_false, Bool.false_eq_true, if_true, if_false, reduceIte, Nat.zero_add, decide_true, decide_false, selC, comp_K, tYes, Option.join_some, rIxTH, rIxLH, rLenH, rIsiF, at0, at1, at2, at3, at4, at5, at6, at7, at8, HO.tup.injEq, HO.lst.injEq, reduceCtorEq, false_or, or_false, tyF_non, tyF_bl, tyF_int, tyF_str, exists_const, Int.reduceAdd, Int.reduceMul, Int.reduceSub, gSub, rSetL, tSl, tPart, tNoPart, rSlH, upd_same, upd_upd, rIntB, rListH, tBM, tBM0, rAppend, rClear, tPar, gTupH]
  intro E0' hE
  have gE := same_new hE (HO.dT [])
  refine tFor_mk ?_
  simp only [iList, tSeq, tNext, tRet, tRetN, tIfS, tAsg, gName, tDrop, tVar, tC, tOp, tUn, rI, rI0, rU, rEq, rNe, tTest, tB, tNot, tAnd, tOr, tAndV, tOrV, tNotV, tIf, tCB, tCall, tNil, tCons, tTup, tLst, gTup, gCons, gNil, L2.start, rIsi, rIxT, rIxL, cx_K, tyN_non, tyN_bl, tyN_int, tyN_str, isi_ii, isi_ib, isi_it, isi_il, isi_bi, isi_bb, isi_tt, isi_ni, isi_si, isi_ti, isi_li, isi_di, isi_ll, scal_ii, scal_bb, sz0, sz1, sz2, sz3, sz4, List.map_cons, List.map_nil, List.length_cons, List.length_nil, List.replicate, List.cons_append, List.nil_append, List.append_nil, List.getElem?_cons_zero, List.getElem?_cons_succ, List.set_cons_zero, List.set_cons_succ, Option.some.injEq, V.int.injEq, V.bl.injEq, V.ref.injEq, V.ty.injEq, List.cons.injEq, and_true, true_and, exists_eq_left, exists_eq_left', exists_and_left, exists_and_right, exists_eq, exists_eq', and_assoc, Nat.reduceAdd, Nat.reduceSub, Bool.not_true, Bool.not_false, Bool.false_eq_true, if_true, if_false, reduceIte, Nat.zero_add, decide_true, decide_false, selC, comp_K, tYes, Option.join_some, rIxTH, rIxLH, rLenH, rIsiF, at0, at1, at2, at3, at4, at5, at6, at7, at8, HO.tup.injEq, HO.lst.injEq, reduceCtorEq, false_or, or_false, tyF_non, tyF_bl, tyF_int, tyF_str, exists_const, Int.reduceAdd, Int.reduceMul, Int.reduceSub, gSub, rSetL, tSl, tPart, tNoPart, rSlH, upd_same, upd_upd, rIntB, rListH, tBM, tBM0, rAppend, rClear, tPar, gTupH]
  refine ⟨⟨_, .of (gE _ _ hW3)⟩, ?_⟩
  refine for_list (K := K) (a := W) (xs := ys) (fun i σ H' => Same H3 H' ∧ ∃ (kvs : List (List Key × V)) (ks : List (Int × Int)) (o1 o2 : Option V), σ = [some (V.ref a0), some (V.ref C), some (V.ref M), some (V.ref W), some (V.ref E0'), o1, o2, none, none, none, none, none] ∧ H' E0' = some (.dT kvs) ∧ kvs.length ≤ 2 * i ∧ KsOf kvs ks ((ws.take i).flatMap fun e => [mv f e.1, mv f e.2])) ⟨gE, [], [], none, none, rfl, upd_same, Nat.le_refl _, rfl, .nil, fun p => by rw [List.take_zero]; exact Iff.rfl⟩ (fun i σ H' _ iv => .of (iv.1 _ _ hW3)) ?_ ?_
  · rintro i v σ H4 hi ⟨g4, kvs, ks, o1, o2, rfl, hE4, nk, ko⟩
    obtain ⟨p, e, rfl, he', ⟨c, d, h1, h2, h3⟩, b1, b2⟩ := hw.2 i v hi
    have hi' := (List.getElem?_eq_some_iff.mp hi).1
    have h1' := g4 _ _ h1
    have h2' : H4 c = some (.tup [.int (mv f e.1).1, .int (mv f e.1).2]) := g4 _ _ h2
    have h3' : H4 d = some (.tup [.int (mv f e.2).1, .int (mv f e.2).2]) := g4 _ _ h3
    simp only [tSeq, tNext, tRet, tRetN, tIfS, tAsg, gName, tDrop, tVar, tC, tOp, tUn, rI, rI0, rU, rEq, rNe, tTest, tB, tNot, tAnd, tOr, tAndV, tOrV, tNotV, tIf, tCB, tCall, tNil, tCons, tTup, tLst, gTup, gCons, gNil, L2.start, rIsi, rIxT, rIxL, cx_K, tyN_non, tyN_bl, tyN_int, tyN_str, isi_ii, isi_ib, isi_it, isi_il, isi_bi, isi_bb, isi_tt, isi_ni, isi_si, isi_ti, isi_li, isi_di, isi_ll, scal_ii, scal_bb, sz0, sz1, sz2, sz3, sz4, List.map_cons, List.map_nil, List.length_cons, List.length_nil, List.replicate, List.cons_append, List.nil_append, List.append_nil, List.getElem?_cons_zero, List.getElem?_cons_succ, List.set_cons_zero, List.set_cons_succ, Option.some.injEq, V.int.injEq, V.bl.injEq, V.ref.injEq, V.ty.injEq, List.cons.injEq, and_true, true_and, exists_eq_left, exists_eq_left', exists_and_left, exists_and_right, exists_eq, exists_eq', and_assoc, Nat.reduceAdd, Nat.reduceSub, Bool.not_true, Bool.not_false, Bool.false_eq_true, if_true, if_false, reduceIte, Nat.zero_add, decide_true, decide_false, selC, comp_K, tYes, Option.join_some, rIxTH, rIxLH, rLenH, rIsiF, at0, at1, at2, at3, at4, at5, at6, at7, at8, HO.tup.injEq, HO.lst.injEq, reduceCtorEq, false_or, or_false, tyF_non, tyF_bl, tyF_int, tyF_str, exists_const, Int.reduceAdd, Int.reduceMul, Int.reduceSub, gSub, rSetL, tSl, tPart, tNoPart, rSlH, upd_same, upd_upd, rIntB, rListH, tBM, tBM0, rAppend, rClear, tPar, gTupH, sDPut, h1']
    have l5 := length_putK kvs (kP (mv f e.1)) (V.bl true)
    have l6 := length_putK (putK kvs (kP (mv f e.1)) (V.bl true)) (kP (mv f e.2)) (V.bl true)
    obtain ⟨ks1, ko1⟩ := ko.put (a := mv f e.1) (v := V.bl true)
    obtain ⟨ks2, ko2⟩ := ko1.put (a := mv f e.2) (v := V.bl true)
    refine ⟨_, .t (k := kP (mv f e.1)) hE4 h2' (small1000 (by omega)), _, .t (k := kP (mv f e.2)) upd_same (ts_putD hE4 _ _ h3') (small1000 (by omega)), same_put (same_put g4 hE) hE, _, upd_same, by omega, ks2, ?_⟩
    rw [List.take_add_one, he', List.flatMap_append]
    rw [List.append_assoc] at ko2
    exact ko2
  · rintro σ H4 ⟨g4, kvs, ks, o1, o2, rfl, hE4, nk, ko⟩
    rw [List.take_of_length_le (Nat.le_of_eq hw.1.symm)] at ko
    simp only [tSeq, tNext, tRet, tRetN, tIfS, tAsg, gName, tDrop, tVar, tC, tOp, tUn, rI, rI0, rU, rEq, rNe, tTest, tB, tNot, tAnd, tOr, tAndV, tOrV, tNotV, tIf, tCB, tCall, tNil, tCons, tTup, tLst, gTup, gCons, gNil, L2.start, rIsi, rIxT, rIxL, cx_K, tyN_non, tyN_bl, tyN_int, tyN_str, isi_ii, isi_ib, isi_it, isi_il, isi_bi, isi_bb, isi_tt, isi_ni, isi_si, isi_ti, isi_li, isi_di, isi_ll, scal_ii, scal_bb, sz0, sz1, sz2, sz3, sz4, List.map_cons, List.map_nil, List.length_cons, List.length_nil, List.replicate, List.cons_append, List.nil_append, List.append_nil, List.getElem?_cons_zero, List.getElem?_cons_succ, List.set_cons_zero, List.set_cons_succ, Option.some.injEq, V.int.injEq, V.bl.injEq, V.ref.injEq, V.ty.injEq, List.cons.injEq, and_true, true_and, exists_eq_left, exists_eq_left', exists_and_left, exists_and_right, exists_eq, exists_eq', and_assoc, Nat.reduceAdd, Nat.reduceSub, Bool.not_true, Bool.not_false, Bool.false_eq_true, if_true, if_false, reduceIte, Nat.zero_add, decide_true, decide_false, selC, comp_K, tYes, Option.join_some, rIxTH, rIxLH, rLenH, rIsiF, at0, at1, at2, at3, at4, at5, at6, at7, at8, HO.tup.injEq, HO.lst.injEq, reduceCtorEq, false_or, or_false, tyF_non, tyF_bl, tyF_int, tyF_str, exists_const, Int.reduceAdd, Int.reduceMul, Int.reduceSub, gSub, rSetL, tSl, tPart, tNoPart, rSlH, upd_same, upd_upd, rIntB, rListH, tBM, tBM0, rAppend, rClear, tPar, gTupH]
    refine tComp_mk ?_
    simp only [iList, tSeq, tNext, tRet, tRetN, tIfS, tAsg, gName, tDrop, tVar, tC, tOp, tUn, rI, rI0, rU, rEq, rNe, tTest, tB, tNot, tAnd, tOr, tAndV, tOrV, tNotV, tIf, tCB, tCall, tNil, tCons, tTup, tLst, gTup, gCons, gNil, L2.start, rIsi, rIxT, rIxL, cx_K, tyN_non, tyN_bl, tyN_int, tyN_str, isi_ii, isi_ib, isi_it, isi_il, isi_bi, isi_bb, isi_tt, isi_ni, isi_si, isi_ti, isi_li, isi_di, isi_ll, scal_ii, scal_bb, sz0, sz1, sz2, sz3, sz4, List.map_cons, List.map_nil, List.length_cons, List.length_nil, List.replicate, List.cons_append, List.nil_append, List.append_nil, List.getElem?_cons_zero, List.getElem?_cons_succ, List.set_cons_zero, List.set_cons_succ, Option.some.injEq, V.int.injEq, V.bl.injEq, V.ref.injEq, V.ty.injEq, List.cons.injEq, and_true, true_and, exists_eq_left, exists_eq_left', exists_and_left, exists_and_right, exists_eq, exists_eq', and_assoc, Nat.reduceAdd, Nat.reduceSub, Bool.not_true, Bool.not_false, Bool.false_eq_true, if_true, if_false, reduceIte, Nat.zero_add, decide_true, decide_false, selC, comp_K, tYes, Option.join_some, rIxTH, rIxLH, rLenH, rIsiF, at0, at1, at2, at3, at4, at5, at6, at7, at8, HO.tup.injEq, HO.lst.injEq, reduceCtorEq, false_or, or_false, tyF_non, tyF_bl, tyF_int, tyF_str, exists_const, Int.reduceAdd, Int.reduceMul, Int.reduceSub, gSub, rSetL, tSl, tPart, tNoPart, rSlH, upd_same, upd_upd, rIntB, rListH, tBM, tBM0, rAppend, rClear, tPar, gTupH]
    have kbx : ∀ q, q ∈ ks → ∃ a, Bx a ∧ q = mv f a := fun q hq => by
      obtain ⟨e, e1, e2⟩ := mem_ends ((ko.2.2 q).mp hq)
      have b := mw_bx hw e1
      exact e2.elim (fun z => ⟨_, b.1, z⟩) (fun z => ⟨_, b.2, z⟩)
    refine ⟨E0', kvs, ks, rfl, hE4, ko.1, few_of (mv f) ko.2.1 kbx, trivial, fun bs D1 pp lb hbs hD1 or ep => ?_⟩
    simp only [ltK_lt2] at ep
    obtain ⟨pm, pw⟩ := sorted_of sto2 id (0, 0) (by rw [List.map_id]; exact ko.2.1) or ep
    have lr4 : LR P2H H4 (pp.toList.map fun i => (bs.map V.ref).getD i .non) (pp.toList.map fun i => ks.getD i (0, 0)) := lr_sorted lb hbs or
    have l63 := few_of (mv f) ko.2.1 kbx
    have lq : (pp.toList.map fun i => (bs.map V.ref).getD i .non).length ≤ 63 := by rw [lr4.1, pm.length_eq]; omega
    generalize (pp.toList.map fun i => (bs.map V.ref).getD i .non) = qs at *
    generalize (pp.toList.map fun i => ks.getD i (0, 0)) = os2 at *
    have g5 := same_new hD1 (HO.lst qs)
    have hD15 : upd H4 D1 (HO.lst qs) D1 = some (.lst qs) := upd_same
    have lr5 := lr4.ts p2_ts (ts_same g5)
    generalize upd H4 D1 (HO.lst qs) = H5 at *
    have g35 := g4.trans g5
    obtain ⟨xs, hxs, _, _, _, _, _, _, x6, fb⟩ := hf3
    have w1 := fb.2.2.2.2.2.2.1
    refine ⟨D1, rfl, ⟨_, .of hD15⟩, fun D2 hD2 => ?_⟩
    refine comp_list (xs := qs) (iv_lr (fun H p k => QH H p (ptW f.w k)) os2 H5 D2) (iv_lr_nil hD2) (fun i _ H' q => .of (q.1 _ _ hD15)) ?_ ?_
    · rintro i us H6 v hi hv iv
      obtain ⟨g6, hD6, lu, hu⟩ := id iv
      obtain ⟨p, k2, rfl, he', hk⟩ := lr5.2 i v hv
      have hk6 : H6 p = some (.tup [.int k2.1, .int k2.2]) := g6 _ _ hk
      have hx6 := g6 _ _ (g35 _ _ hxs)
      simp only [tSeq, tNext, tRet, tRetN, tIfS, tAsg, gName, tDrop, tVar, tC, tOp, tUn, rI, rI0, rU, rEq, rNe, tTest, tB, tNot, tAnd, tOr, tAndV, tOrV, tNotV, tIf, tCB, tCall, tNil, tCons, tTup, tLst, gTup, gCons, gNil, L2.start, rIsi, rIxT, rIxL, cx_K, tyN_non, tyN_bl, tyN_int, tyN_str, isi_ii, isi_ib, isi_it, isi_il, isi_bi, isi_bb, isi_tt, isi_ni, isi_si, isi_ti, isi_li, isi_di, isi_ll, scal_ii, scal_bb, sz0, sz1, sz2, sz3, sz4, List.map_cons, List.map_nil, List.length_cons, List.length_nil, List.replicate, List.cons_append, List.nil_append, List.append_nil, List.getElem?_cons_zero, List.getElem?_cons_succ, List.set_cons_zero, List.set_cons_succ, Option.some.injEq, V.int.injEq, V.bl.injEq, V.ref.injEq, V.ty.injEq, List.cons.injEq, and_true, true_and, exists_eq_left, exists_eq_left', exists_and_left, exists_and_right, exists_eq, exists_eq', and_assoc, Nat.reduceAdd, Nat.reduceSub, Bool.not_true, Bool.not_false, Bool.false_eq_true, if_true, if_false, reduceIte, Nat.zero_add, decide_true, decide_false, selC, comp_K, tYes, Option.join_some, rIxTH, rIxLH, rLenH, rIsiF, at0, at1, at2, at3, at4, at5, at6, at7, at8, HO.tup.injEq, HO.lst.injEq, reduceCtorEq, false_or, or_false, tyF_non, tyF_bl, tyF_int, tyF_str, exists_const, Int.reduceAdd, Int.reduceMul, Int.reduceSub, gSub, rSetL, tSl, tPart, tNoPart, rSlH, upd_same, upd_upd, rIntB, rListH, tBM, tBM0, rAppend, rClear, tPar, gTupH, hk6, hx6, x6]
      obtain ⟨a, ba, ea⟩ := kbx k2 (pm.mem_iff.mp (List.mem_of_getElem? he'))
      refine ⟨_, _, _, rfl, by rw [ea]; exact mv_bd fb ba, by omega, fun pa H7 g7 ha => ?_⟩
      exact iv_lr_put (R := fun H p k => QH H p (ptW f.w k)) (a := k2) (fun _ _ _ _ => qh_ts _ _ _ _) hD2 (by omega) iv hi he' g7 ha
    · rintro ds H6 ⟨g6, hD6, lu, hu⟩
      rw [List.take_of_length_le (Nat.le_of_eq lr5.1.symm)] at hu
      have hu6 : LR QH H6 ds (os2.map (ptW f.w)) := hu.map
      have g36 := g35.trans g6
      have lt6 := lt3.same g36
      refine ⟨xs, g36 _ _ hxs, _, x6, W, ys, ws, f, rfl, g36 _ _ hW3, ny, hw.ts mw_ts (ts_same g36), fb, fun L ls H7 hL g7 hL7 hls => ?_⟩
      refine ⟨L, rfl, ls, .inl hL7, fun N hN => ?_⟩
      have nLN : L ≠ N := ne_of_none hL7 hN
      have hD7 := g7 _ _ hD6
      have nDN : D2 ≠ N := ne_of_none hD7 hN
      have nDL : D2 ≠ L := ne_of_none hD6 hL
      have g8 := same_new hN (HO.lst ls)
      have hN8 : upd H7 N (HO.lst ls) N = some (HO.lst ls) := upd_same
      generalize upd H7 N (HO.lst ls) = H8 at *
      have lt8 := (lt6.same g7).same g8
      have hs8 := hls.ts s2_ts (ts_same g8)
      have hu8 := (hu6.same g7).same g8
      have nl : ls.length ≤ 144 := by rw [hls.1, List.length_map, ← hw.1]; exact ny
      have few : ∀ qs : List Q3, qs.Nodup → (∀ p, p ∈ qs → p ∈ (ws.map (tdF f)).flatMap fun s => [s.1, s.2]) → qs.length < 64 := fun qs nd h => few_of (pqF f) nd fun q hq => by
        obtain ⟨e, e1, e2⟩ := mem_told.mp (h q hq)
        have b := mw_bx hw e1
        exact e2.elim (fun z => ⟨_, b.1, z⟩) (fun z => ⟨_, b.2, z⟩)
      refine ⟨N, ls, _, rfl, hN8, nl, hs8, few, lt8, fun F fs os H9 hF st9 lt9 hF9 ho oo => ?_⟩
      have ts9 : TupSame H8 H9 := fun b xs q => st9.tup lt8 q
      have due := due_is (by omega) ko.2.2 pm pw oo
      have hL9 := st9.lst lt8 (g8 _ _ hL7)
      have hN9 := st9.lst lt8 hN8
      have hD9 := st9.lst lt8 (g8 _ _ hD7)
      have hs9 := hs8.ts s2_ts ts9
      have hu9 := hu8.ts qh_ts ts9
      subst due
      refine ⟨_, _, rd_sl hN9 hs9, rd_sl hL9 hs9, dSs_shaped _, dSs_shaped _, _, rfl, ?_⟩
      rw [dSs_eqv]
      refine iteF ⟨_, tyF_lst hF9, iteF ⟨_, _, rd_ql hF9 ho, rd_ql hD9 hu9, dQs_shaped _, dQs_shaped _, _, rfl, ?_⟩⟩
      rw [dQs_eqv, decide_eq_true rfl]
      refine iteF ?_
      intro p0 z0
      have s0 := same_new z0 (HO.tup [V.int 0, V.int 0, V.int 1])
      have q0 : upd H9 p0 (HO.tup [V.int 0, V.int 0, V.int 1]) p0 = some (HO.tup [V.int 0, V.int 0, V.int 1]) := upd_same
      generalize upd H9 p0 (HO.tup [V.int 0, V.int 0, V.int 1]) = I0 at *
      intro p1 z1
      have s1 := same_new z1 (HO.tup [V.int 2, V.int 1, V.int 1])
      have q1 : upd I0 p1 (HO.tup [V.int 2, V.int 1, V.int 1]) p1 = some (HO.tup [V.int 2, V.int 1, V.int 1]) := upd_same
      generalize upd I0 p1 (HO.tup [V.int 2, V.int 1, V.int 1]) = I1 at *
      intro p2 z2
      have s2 := same_new z2 (HO.tup [V.ref p0, V.ref p1])
      have q2 : upd I1 p2 (HO.tup [V.ref p0, V.ref p1]) p2 = some (HO.tup [V.ref p0, V.ref p1]) := upd_same
      generalize upd I1 p2 (HO.tup [V.ref p0, V.ref p1]) = I2 at *
      intro p3 z3
      have s3 := same_new z3 (HO.tup [V.int 1, V.int 3, V.int 1])
      have q3 : upd I2 p3 (HO.tup [V.int 1, V.int 3, V.int 1]) p3 = some (HO.tup [V.int 1, V.int 3, V.int 1]) := upd_same
      generalize upd I2 p3 (HO.tup [V.int 1, V.int 3, V.int 1]) = I3 at *
      intro p4 z4
      have s4 := same_new z4 (HO.tup [V.int 0, V.int 0, V.int 1])
      have q4 : upd I3 p4 (HO.tup [V.int 0, V.int 0, V.int 1]) p4 = some (HO.tup [V.int 0, V.int 0, V.int 1]) := upd_same
      generalize upd I3 p4 (HO.tup [V.int 0, V.int 0, V.int 1]) = I4 at *
      intro p5 z5
      have s5 := same_new z5 (HO.tup [V.ref p3, V.ref p4])
      have q5 : upd I4 p5 (HO.tup [V.ref p3, V.ref p4]) p5 = some (HO.tup [V.ref p3, V.ref p4]) := upd_same
      generalize upd I4 p5 (HO.tup [V.ref p3, V.ref p4]) = I5 at *
      intro p6 z6
      have s6 := same_new z6 (HO.tup [V.int 2, V.int 1, V.int 1])
      have q6 : upd I5 p6 (HO.tup [V.int 2, V.int 1, V.int 1]) p6 = some (HO.tup [V.int 2, V.int 1, V.int 1]) := upd_same
      generalize upd I5 p6 (HO.tup [V.int 2, V.int 1, V.int 1]) = I6 at *
      intro p7 z7
      have s7 := same_new z7 (HO.tup [V.int 1, V.int 3, V.int 1])
      have q7 : upd I6 p7 (HO.tup [V.int 1, V.int 3, V.int 1]) p7 = some (HO.tup [V.int 1, V.int 3, V.int 1]) := upd_same
      generalize upd I6 p7 (HO.tup [V.int 1, V.int 3, V.int 1]) = I7 at *
      intro p8 z8
      have s8 := same_new z8 (HO.tup [V.ref p6, V.ref p7])
      have q8 : upd I7 p8 (HO.tup [V.ref p6, V.ref p7]) p8 = some (HO.tup [V.ref p6, V.ref p7]) := upd_same
      generalize upd I7 p8 (HO.tup [V.ref p6, V.ref p7]) = I8 at *
      intro p9 z9
      have s9 := same_new z9 (HO.lst [V.ref p2, V.ref p5, V.ref p8])
      have q9 : upd I8 p9 (HO.lst [V.ref p2, V.ref p5, V.ref p8]) p9 = some (HO.lst [V.ref p2, V.ref p5, V.ref p8]) := upd_same
      generalize upd I8 p9 (HO.lst [V.ref p2, V.ref p5, V.ref p8]) = I9 at *
      have g19 : Same H9 I9 := (((((((((s0.trans s1).trans s2).trans s3).trans s4).trans s5).trans s6).trans s7).trans s8).trans s9)
      have lt19 := lt9.same g19
      have pt : ∀ x y : Int, x.natAbs < 2 ^ 60 → y.natAbs < 2 ^ 60 → PQ 60 ⟨x, y, 1⟩ := fun x y hx hy => ⟨(by decide : (0 : Int) < 1), by show Nat.gcd _ _ = 1; exact Nat.gcd_one_right _, hx, hy, (by decide : (1 : Int).natAbs < 2 ^ 60)⟩
      have hs19 : LR S2H I9 [V.ref p2, V.ref p5, V.ref p8] [(⟨0, 0, 1⟩, ⟨2, 1, 1⟩), (⟨1, 3, 1⟩, ⟨0, 0, 1⟩), (⟨2, 1, 1⟩, ⟨1, 3, 1⟩)] := .cons ⟨p2, rfl, p0, p1, (s9 _ _ (s8 _ _ (s7 _ _ (s6 _ _ (s5 _ _ (s4 _ _ (s3 _ _ (q2)))))))), ⟨(s9 _ _ (s8 _ _ (s7 _ _ (s6 _ _ (s5 _ _ (s4 _ _ (s3 _ _ (s2 _ _ (s1 _ _ (q0)))))))))), (pt 0 0 (by decide) (by decide))⟩, ⟨(s9 _ _ (s8 _ _ (s7 _ _ (s6 _ _ (s5 _ _ (s4 _ _ (s3 _ _ (s2 _ _ (q1))))))))), (pt 2 1 (by decide) (by decide))⟩⟩ (.cons ⟨p5, rfl, p3, p4, (s9 _ _ (s8 _ _ (s7 _ _ (s6 _ _ (q5))))), ⟨(s9 _ _ (s8 _ _ (s7 _ _ (s6 _ _ (s5 _ _ (s4 _ _ (q3))))))), (pt 1 3 (by decide) (by decide))⟩, ⟨(s9 _ _ (s8 _ _ (s7 _ _ (s6 _ _ (s5 _ _ (q4)))))), (pt 0 0 (by decide) (by decide))⟩⟩ (.cons ⟨p8, rfl, p6, p7, (s9 _ _ (q8)), ⟨(s9 _ _ (s8 _ _ (s7 _ _ (q6)))), (pt 2 1 (by decide) (by decide))⟩, ⟨(s9 _ _ (s8 _ _ (q7))), (pt 1 3 (by decide) (by decide))⟩⟩ .nil))
      refine ⟨p9, _, _, rfl, q9, (by decide : 3 ≤ 144), hs19, fun qs nd h => Nat.lt_of_le_of_lt (nodup_le3 qs _ nd h) (by decide), lt19, fun O zs2 os3 H10 hO st10 lt10 hO10 ho3 oo3 => ?_⟩
      have e3 := three_is oo3
      subst e3
      have ts10 : TupSame I9 H10 := fun b xs q => st10.tup lt19 q
      have ts910 : TupSame H9 H10 := ts_trans (ts_same g19) ts10
      have hF10 := st10.lst lt19 (g19 _ _ hF9)
      have hL10 := st10.lst lt19 (g19 _ _ hL9)
      have hN10 := st10.lst lt19 (g19 _ _ hN9)
      have hD10 := st10.lst lt19 (g19 _ _ hD9)
      have hs10 := hs9.ts s2_ts ts910
      have hu10 := hu9.ts qh_ts ts910
      have ho10 := ho.ts qh_ts ts910
      have nNF : N ≠ F := ne_of_none hN8 hF
      have nDF : D2 ≠ F := ne_of_none (g8 _ _ hD7) hF
      have nLF : L ≠ F := ne_of_none (g8 _ _ hL7) hF
      have nNO : N ≠ O := ne_of_none (g19 _ _ hN9) hO
      refine ⟨tyV_of hN10, ⟨_, hN10⟩, ?_⟩
      have tsJ : TupSame H10 (upd H10 N (HO.lst [])) := ts_put hN10
      have ltJ : LamTab (upd H10 N (HO.lst [])) (ad 18) lposB qlB := lt_put lt10 hN10
      have hFJ : upd H10 N (HO.lst []) F = some (.lst fs) := by rw [upd_ne nNF.symm]; exact hF10
      have hLJ : upd H10 N (HO.lst []) L = some (.lst ls) := by rw [upd_ne nLN]; exact hL10
      have hDJ : upd H10 N (HO.lst []) D2 = some (.lst ds) := by rw [upd_ne nDN]; exact hD10
      have hOJ : upd H10 N (HO.lst []) O = some (.lst zs2) := by rw [upd_ne nNO.symm]; exact hO10
      have hsJ := hs10.ts s2_ts tsJ
      have huJ := hu10.ts qh_ts tsJ
      have hoJ := ho10.ts qh_ts tsJ
      have ho3J := ho3.ts qh_ts tsJ
      generalize upd H10 N (HO.lst []) = J at *
      clear q0 q1 q2 q3 q4 q5 q6 q7 q8 q9 s0 s1 s2 s3 s4 s5 s6 s7 s8 s9 z0 z1 z2 z3 z4 z5 z6 z7 z8 z9
      intro r0 z0
      have s0 := same_new z0 (HO.tup [V.int 0, V.int 0, V.int 1])
      have q0 : upd J r0 (HO.tup [V.int 0, V.int 0, V.int 1]) r0 = some (HO.tup [V.int 0, V.int 0, V.int 1]) := upd_same
      generalize upd J r0 (HO.tup [V.int 0, V.int 0, V.int 1]) = J0 at *
      intro r1 z1
      have s1 := same_new z1 (HO.tup [V.int 1, V.int 3, V.int 1])
      have q1 : upd J0 r1 (HO.tup [V.int 1, V.int 3, V.int 1]) r1 = some (HO.tup [V.int 1, V.int 3, V.int 1]) := upd_same
      generalize upd J0 r1 (HO.tup [V.int 1, V.int 3, V.int 1]) = J1 at *
      intro r2 z2
      have s2 := same_new z2 (HO.tup [V.int 2, V.int 1, V.int 1])
      have q2 : upd J1 r2 (HO.tup [V.int 2, V.int 1, V.int 1]) r2 = some (HO.tup [V.int 2, V.int 1, V.int 1]) := upd_same
      generalize upd J1 r2 (HO.tup [V.int 2, V.int 1, V.int 1]) = J2 at *
      intro r3 z3
      have s3 := same_new z3 (HO.lst [V.ref r0, V.ref r1, V.ref r2])
      have q3 : upd J2 r3 (HO.lst [V.ref r0, V.ref r1, V.ref r2]) r3 = some (HO.lst [V.ref r0, V.ref r1, V.ref r2]) := upd_same
      generalize upd J2 r3 (HO.lst [V.ref r0, V.ref r1, V.ref r2]) = J3 at *
      have gJ : Same J J3 := ((s0.trans s1).trans s2).trans s3
      have hl3 : LR QH J3 [V.ref r0, V.ref r1, V.ref r2] [⟨0, 0, 1⟩, ⟨1, 3, 1⟩, ⟨2, 1, 1⟩] := .cons ⟨r0, rfl, (s3 _ _ (s2 _ _ (s1 _ _ (q0)))), pt 0 0 (by decide) (by decide)⟩ (.cons ⟨r1, rfl, (s3 _ _ (s2 _ _ (q1))), pt 1 3 (by decide) (by decide)⟩ (.cons ⟨r2, rfl, (s3 _ _ (q2)), pt 2 1 (by decide) (by decide)⟩ .nil))
      refine ⟨_, _, rd_ql (gJ _ _ hOJ) (ho3J.same gJ), rd_ql q3 hl3, dQs_shaped _, dQs_shaped _, _, rfl, ?_⟩
      rw [dQs_eqv, decide_eq_true rfl]
      refine iteF ⟨_, _, rd_ql (gJ _ _ hFJ) (hoJ.same gJ), rd_ql (gJ _ _ hDJ) (huJ.same gJ), dQs_shaped _, dQs_shaped _, _, rfl, ?_⟩
      rw [dQs_eqv, decide_eq_true rfl]
      refine iteF ⟨tyV_of (gJ _ _ hFJ), fun r4 z4 => ?_⟩
      have s4 := same_new z4 (HO.tup [V.int 0, V.int 0, V.int 1])
      have gJ4 := gJ.trans s4
      have hFK := gJ4 _ _ hFJ
      generalize upd J3 r4 (HO.tup [V.int 0, V.int 0, V.int 1]) = J4 at *
      have lf : fs.length ≤ 63 := by rw [ho.1, List.length_map, pm.length_eq]; omega
      refine ⟨F, rfl, fs, hFK, small1000 (by omega), ?_⟩
      have ltK := ltJ.same gJ4
      have tsL : TupSame J4 (upd J4 F (HO.lst (fs ++ [V.ref r4]))) := ts_put hFK
      have ltL : LamTab (upd J4 F (HO.lst (fs ++ [V.ref r4]))) (ad 18) lposB qlB := lt_put ltK hFK
      have hLL : upd J4 F (HO.lst (fs ++ [V.ref r4])) L = some (.lst ls) := by rw [upd_ne nLF]; exact gJ4 _ _ hLJ
      have hDL : upd J4 F (HO.lst (fs ++ [V.ref r4])) D2 = some (.lst ds) := by rw [upd_ne nDF]; exact gJ4 _ _ hDJ
      have hsL := (hsJ.ts s2_ts (ts_same gJ4)).ts s2_ts tsL
      have huL := (huJ.same gJ4).ts qh_ts tsL
      generalize upd J4 F (HO.lst (fs ++ [V.ref r4])) = J5 at *
      refine ⟨L, ls, _, rfl, hLL, nl, hsL, few, ltL, fun F2 fs2 os4 H11 hF2 st11 lt11 hF211 ho4 oo4 => ?_⟩
      have e4 := due_is (by omega) ko.2.2 pm pw oo4
      subst e4
      refine ⟨_, _, rd_ql hF211 ho4, rd_ql (st11.lst ltL hDL) (huL.ts qh_ts fun b xs q => st11.tup ltL q), dQs_shaped _, dQs_shaped _, ?_⟩
      rw [dQs_eqv, decide_eq_true rfl]
      exact k _
end
theorem all_mk {l : PySem.W.OpenLaw} {w : World} {K : PySem.W.Frag} {h : Heap} {mg : Str → Option Value} {fa f0 f1 cT pT f2 f3 f4 f5 f6 f7 f8 f9 f10 f11 f12 f13 f14 f15 f16 : Addr} (X : K.In h) (G : h.Ns mainGlobals mg) (hfa : mg "law" = some (.ref fa))
    {od0 an0 : Option Addr} {sl0 : Array (Option Value)} {oc0 kV0 dc0 pm0 cd0 ct0 : Value}
    {od1 an1 : Option Addr} {sl1 : Array (Option Value)} {oc1 kV1 dc1 pm1 ct1 : Value}
    {tdT : Option Addr} {tvT : Array Value} {tsT : Array (Option Value)} {tcT : Value}
    {od2 an2 : Option Addr} {sl2 : Array (Option Value)} {oc2 kV2 dc2 pm2 cd2 ct2 : Value}
    {od3 an3 : Option Addr} {sl3 : Array (Option Value)} {oc3 kV3 dc3 pm3 cd3 ct3 : Value}
    {od4 an4 : Option Addr} {sl4 : Array (Option Value)} {oc4 kV4 dc4 pm4 cd4 ct4 : Value}
    {od5 an5 : Option Addr} {sl5 : Array (Option Value)} {oc5 kV5 dc5 pm5 cd5 ct5 : Value}
    {od6 an6 : Option Addr} {sl6 : Array (Option Value)} {oc6 kV6 dc6 pm6 cd6 ct6 : Value}
    {od7 an7 : Option Addr} {sl7 : Array (Option Value)} {oc7 kV7 dc7 pm7 cd7 ct7 : Value}
    {od8 an8 : Option Addr} {sl8 : Array (Option Value)} {oc8 kV8 dc8 pm8 cd8 ct8 : Value}
    {od9 an9 : Option Addr} {sl9 : Array (Option Value)} {oc9 kV9 dc9 pm9 cd9 ct9 : Value}
    {od10 an10 : Option Addr} {sl10 : Array (Option Value)} {oc10 kV10 dc10 pm10 cd10 ct10 : Value}
    {od11 an11 : Option Addr} {sl11 : Array (Option Value)} {oc11 kV11 dc11 pm11 cd11 ct11 : Value}
    {od12 an12 : Option Addr} {sl12 : Array (Option Value)} {oc12 kV12 dc12 pm12 cd12 ct12 : Value}
    {od13 an13 : Option Addr} {sl13 : Array (Option Value)} {oc13 kV13 dc13 pm13 cd13 ct13 : Value}
    {od14 an14 : Option Addr} {sl14 : Array (Option Value)} {oc14 kV14 dc14 pm14 cd14 ct14 : Value}
    {od15 an15 : Option Addr} {sl15 : Array (Option Value)} {oc15 kV15 dc15 pm15 cd15 ct15 : Value}
    {od16 an16 : Option Addr} {sl16 : Array (Option Value)} {oc16 kV16 dc16 pm16 cd16 ct16 : Value}
    (a0 : PySem.W.nsIn K mainGlobals "order_keys" = some (some (.ref f0))) (l0 : K.lookup f0 = some ⟨oc0, od0, .func (PySem.W.fnOf "order_keys" "order_keys" (defArgs s_order_keys) (defBody s_order_keys) (defScope s_order_keys) .none kV0 dc0 pm0 an0 cd0 ct0), sl0⟩) (c0 : PySem.W.codeIn K cd0 "order_keys" = true) (k0 : PySem.W.keepIn K (.ref f0) = true)
    (a1 : PySem.W.nsIn K mainGlobals "in_order" = some (some (.ref f1))) (l1 : K.lookup f1 = some ⟨oc1, od1, .func (PySem.W.fnOf "in_order" "in_order" (defArgs s_in_order) (defBody s_in_order) (defScope s_in_order) .none kV1 dc1 pm1 an1 (.ref cT) ct1), sl1⟩) (c1 : PySem.W.codeIn K (.ref cT) "in_order" = true) (k1 : PySem.W.keepIn K (.ref f1) = true)
    (lT : K.lookup cT = some ⟨tcT, tdT, .fields tvT, tsT⟩) (vT : tvT[11]? = some (.ref pT)) (hT : PySem.W.codeHdIn K cT pT = true) (tT : PySem.W.tabIn K "in_order" = some (cT, pT)) (nT : K.lookup pT = none)
    (a2 : PySem.W.nsIn K mainGlobals "ends_of" = some (some (.ref f2))) (l2 : K.lookup f2 = some ⟨oc2, od2, .func (PySem.W.fnOf "ends_of" "ends_of" (defArgs s_ends_of) (defBody s_ends_of) (defScope s_ends_of) .none kV2 dc2 pm2 an2 cd2 ct2), sl2⟩) (c2 : PySem.W.codeIn K cd2 "ends_of" = true) (k2 : PySem.W.keepIn K (.ref f2) = true)
    (a3 : PySem.W.nsIn K mainGlobals "corners_of" = some (some (.ref f3))) (l3 : K.lookup f3 = some ⟨oc3, od3, .func (PySem.W.fnOf "corners_of" "corners_of" (defArgs s_corners_of) (defBody s_corners_of) (defScope s_corners_of) .none kV3 dc3 pm3 an3 cd3 ct3), sl3⟩) (c3 : PySem.W.codeIn K cd3 "corners_of" = true) (k3 : PySem.W.keepIn K (.ref f3) = true)
    (a4 : PySem.W.nsIn K mainGlobals "_law_cell" = some (some (.ref f4))) (l4 : K.lookup f4 = some ⟨oc4, od4, .func (PySem.W.fnOf "_law_cell" "_law_cell" (defArgs s_law_cell) (defBody s_law_cell) (defScope s_law_cell) .none kV4 dc4 pm4 an4 cd4 ct4), sl4⟩) (c4 : PySem.W.codeIn K cd4 "_law_cell" = true) (k4 : PySem.W.keepIn K (.ref f4) = true)
    (a5 : PySem.W.nsIn K mainGlobals "_law_divisor" = some (some (.ref f5))) (l5 : K.lookup f5 = some ⟨oc5, od5, .func (PySem.W.fnOf "_law_divisor" "_law_divisor" (defArgs s_law_divisor) (defBody s_law_divisor) (defScope s_law_divisor) .none kV5 dc5 pm5 an5 cd5 ct5), sl5⟩) (c5 : PySem.W.codeIn K cd5 "_law_divisor" = true) (k5 : PySem.W.keepIn K (.ref f5) = true)
    (a6 : PySem.W.nsIn K mainGlobals "_law_point" = some (some (.ref f6))) (l6 : K.lookup f6 = some ⟨oc6, od6, .func (PySem.W.fnOf "_law_point" "_law_point" (defArgs s_law_point) (defBody s_law_point) (defScope s_law_point) .none kV6 dc6 pm6 an6 cd6 ct6), sl6⟩) (c6 : PySem.W.codeIn K cd6 "_law_point" = true) (k6 : PySem.W.keepIn K (.ref f6) = true)
    (a7 : PySem.W.nsIn K mainGlobals "_law_cells" = some (some (.ref f7))) (l7 : K.lookup f7 = some ⟨oc7, od7, .func (PySem.W.fnOf "_law_cells" "_law_cells" (defArgs s_law_cells) (defBody s_law_cells) (defScope s_law_cells) .none kV7 dc7 pm7 an7 cd7 ct7), sl7⟩) (c7 : PySem.W.codeIn K cd7 "_law_cells" = true) (k7 : PySem.W.keepIn K (.ref f7) = true)
    (a8 : PySem.W.nsIn K mainGlobals "_law_ends" = some (some (.ref f8))) (l8 : K.lookup f8 = some ⟨oc8, od8, .func (PySem.W.fnOf "_law_ends" "_law_ends" (defArgs s_law_ends) (defBody s_law_ends) (defScope s_law_ends) .none kV8 dc8 pm8 an8 cd8 ct8), sl8⟩) (c8 : PySem.W.codeIn K cd8 "_law_ends" = true) (k8 : PySem.W.keepIn K (.ref f8) = true)
    (a9 : PySem.W.nsIn K mainGlobals "_law_edges" = some (some (.ref f9))) (l9 : K.lookup f9 = some ⟨oc9, od9, .func (PySem.W.fnOf "_law_edges" "_law_edges" (defArgs s_law_edges) (defBody s_law_edges) (defScope s_law_edges) .none kV9 dc9 pm9 an9 cd9 ct9), sl9⟩) (c9 : PySem.W.codeIn K cd9 "_law_edges" = true) (k9 : PySem.W.keepIn K (.ref f9) = true)
    (a10 : PySem.W.nsIn K mainGlobals "_law_straight" = some (some (.ref f10))) (l10 : K.lookup f10 = some ⟨oc10, od10, .func (PySem.W.fnOf "_law_straight" "_law_straight" (defArgs s_law_straight) (defBody s_law_straight) (defScope s_law_straight) .none kV10 dc10 pm10 an10 cd10 ct10), sl10⟩) (c10 : PySem.W.codeIn K cd10 "_law_straight" = true) (k10 : PySem.W.keepIn K (.ref f10) = true)
    (a11 : PySem.W.nsIn K mainGlobals "_law_long" = some (some (.ref f11))) (l11 : K.lookup f11 = some ⟨oc11, od11, .func (PySem.W.fnOf "_law_long" "_law_long" (defArgs s_law_long) (defBody s_law_long) (defScope s_law_long) .none kV11 dc11 pm11 an11 cd11 ct11), sl11⟩) (c11 : PySem.W.codeIn K cd11 "_law_long" = true) (k11 : PySem.W.keepIn K (.ref f11) = true)
    (a12 : PySem.W.nsIn K mainGlobals "_law_frame" = some (some (.ref f12))) (l12 : K.lookup f12 = some ⟨oc12, od12, .func (PySem.W.fnOf "_law_frame" "_law_frame" (defArgs s_law_frame) (defBody s_law_frame) (defScope s_law_frame) .none kV12 dc12 pm12 an12 cd12 ct12), sl12⟩) (c12 : PySem.W.codeIn K cd12 "_law_frame" = true) (k12 : PySem.W.keepIn K (.ref f12) = true)
    (a13 : PySem.W.nsIn K mainGlobals "_law_moved" = some (some (.ref f13))) (l13 : K.lookup f13 = some ⟨oc13, od13, .func (PySem.W.fnOf "_law_moved" "_law_moved" (defArgs s_law_moved) (defBody s_law_moved) (defScope s_law_moved) .none kV13 dc13 pm13 an13 cd13 ct13), sl13⟩) (c13 : PySem.W.codeIn K cd13 "_law_moved" = true) (k13 : PySem.W.keepIn K (.ref f13) = true)
    (a14 : PySem.W.nsIn K mainGlobals "_law_land" = some (some (.ref f14))) (l14 : K.lookup f14 = some ⟨oc14, od14, .func (PySem.W.fnOf "_law_land" "_law_land" (defArgs s_law_land) (defBody s_law_land) (defScope s_law_land) .none kV14 dc14 pm14 an14 cd14 ct14), sl14⟩) (c14 : PySem.W.codeIn K cd14 "_law_land" = true) (k14 : PySem.W.keepIn K (.ref f14) = true)
    (a15 : PySem.W.nsIn K mainGlobals "_law_told" = some (some (.ref f15))) (l15 : K.lookup f15 = some ⟨oc15, od15, .func (PySem.W.fnOf "_law_told" "_law_told" (defArgs s_law_told) (defBody s_law_told) (defScope s_law_told) .none kV15 dc15 pm15 an15 cd15 ct15), sl15⟩) (c15 : PySem.W.codeIn K cd15 "_law_told" = true) (k15 : PySem.W.keepIn K (.ref f15) = true)
    (a16 : PySem.W.nsIn K mainGlobals "law" = some (some (.ref f16))) (l16 : K.lookup f16 = some ⟨oc16, od16, .func (PySem.W.fnOf "law" "law" (defArgs s_law) (defBody s_law) (defScope s_law) .none kV16 dc16 pm16 an16 cd16 ct16), sl16⟩) (c16 : PySem.W.codeIn K cd16 "law" = true) (k16 : PySem.W.keepIn K (.ref f16) = true)
    (z0 : PySem.W.nsIn K mainGlobals "abs" = some none)
    (z1 : PySem.W.nsIn K mainGlobals "isinstance" = some none)
    (z2 : PySem.W.nsIn K mainGlobals "len" = some none)
    (z3 : PySem.W.nsIn K mainGlobals "list" = some none)
    (z4 : PySem.W.nsIn K mainGlobals "max" = some none)
    (z5 : PySem.W.nsIn K mainGlobals "range" = some none)
    (z6 : PySem.W.nsIn K mainGlobals "sorted" = some none)
    : ∃ (fd : FuncData) (ts : List Addr), (∀ b, b ∈ ts → K.lookup b = none ∧ ∃ y c, y ∈ ([Str.ofString "in_order"] : List Str) ∧ PySem.W.tabIn K y = some (c, b)) ∧ (∀ (s : Shared) (v : Value), BindsTo s fd ⟨[v], []⟩ [("_law_script", v)]) ∧ ∀ base : Heap, K.In base → base.Ns mainGlobals mg → (∀ b, b ∈ ts → base.BuiltinsAt mg b) → FnOk l.prog w K mg base CX0 5 fa fd ["_law_script"] (sp_lawT K ts) := by
  have e := hfa.symm.trans (PySem.W.mg_of X G a16)
  cases e
  have F0 := fun_mk (st := s_order_keys) l0 c0 k0
  have b0 := F0.binds (ps := ["points"]) fun _ _ _ _ _ _ us hl => match us, hl with | [_], _ => rfl
  have F1 := fun_mk (st := s_in_order) l1 c1 k1
  have FC1 : FunC K "in_order" "in_order" s_in_order f1 _ cT pT := ⟨⟨_, _, _, _, _, _, _, _, rfl, l1, c1⟩, hT⟩
  have b1 := F1.binds (ps := ["points"]) fun _ _ _ _ _ _ us hl => match us, hl with | [_], _ => rfl
  have F2 := fun_mk (st := s_ends_of) l2 c2 k2
  have b2 := F2.binds (ps := ["stretches"]) fun _ _ _ _ _ _ us hl => match us, hl with | [_], _ => rfl
  have F3 := fun_mk (st := s_corners_of) l3 c3 k3
  have b3 := F3.binds (ps := ["land"]) fun _ _ _ _ _ _ us hl => match us, hl with | [_], _ => rfl
  have F4 := fun_mk (st := s_law_cell) l4 c4 k4
  have b4 := F4.binds (ps := ["_law_script", "_law_k"]) fun _ _ _ _ _ _ us hl => match us, hl with | [_, _], _ => rfl
  have F5 := fun_mk (st := s_law_divisor) l5 c5 k5
  have b5 := F5.binds (ps := ["_law_one", "_law_other"]) fun _ _ _ _ _ _ us hl => match us, hl with | [_, _], _ => rfl
  have F6 := fun_mk (st := s_law_point) l6 c6 k6
  have b6 := F6.binds (ps := ["_law_east", "_law_north", "_law_share"]) fun _ _ _ _ _ _ us hl => match us, hl with | [_, _, _], _ => rfl
  have F7 := fun_mk (st := s_law_cells) l7 c7 k7
  have b7 := F7.binds (ps := ["_law_script", "_law_wide", "_law_high"]) fun _ _ _ _ _ _ us hl => match us, hl with | [_, _, _], _ => rfl
  have F8 := fun_mk (st := s_law_ends) l8 c8 k8
  have b8 := F8.binds (ps := ["_law_cell_here"]) fun _ _ _ _ _ _ us hl => match us, hl with | [_], _ => rfl
  have F9 := fun_mk (st := s_law_edges) l9 c9 k9
  have b9 := F9.binds (ps := ["_law_cells_here"]) fun _ _ _ _ _ _ us hl => match us, hl with | [_], _ => rfl
  have F10 := fun_mk (st := s_law_straight) l10 c10 k10
  have b10 := F10.binds (ps := ["_law_starts", "_law_begin", "_law_end"]) fun _ _ _ _ _ _ us hl => match us, hl with | [_, _, _], _ => rfl
  have F11 := fun_mk (st := s_law_long) l11 c11 k11
  have b11 := F11.binds (ps := ["_law_edges_here"]) fun _ _ _ _ _ _ us hl => match us, hl with | [_], _ => rfl
  have F12 := fun_mk (st := s_law_frame) l12 c12 k12
  have b12 := F12.binds (ps := ["_law_script"]) fun _ _ _ _ _ _ us hl => match us, hl with | [_], _ => rfl
  have F13 := fun_mk (st := s_law_moved) l13 c13 k13
  have b13 := F13.binds (ps := ["_law_place", "_law_frame_here"]) fun _ _ _ _ _ _ us hl => match us, hl with | [_, _], _ => rfl
  have F14 := fun_mk (st := s_law_land) l14 c14 k14
  have b14 := F14.binds (ps := ["_law_cells_here", "_law_frame_here"]) fun _ _ _ _ _ _ us hl => match us, hl with | [_, _], _ => rfl
  have F15 := fun_mk (st := s_law_told) l15 c15 k15
  have b15 := F15.binds (ps := ["_law_ways", "_law_share"]) fun _ _ _ _ _ _ us hl => match us, hl with | [_, _], _ => rfl
  have F16 := fun_mk (st := s_law) l16 c16 k16
  have b16 := F16.binds (ps := ["_law_script"]) fun _ _ _ _ _ _ us hl => match us, hl with | [_], _ => rfl
  have T : Txt K mg (fun n => [f0, f1, f2, f3, f4, f5, f6, f7, f8, f9, f10, f11, f12, f13, f14, f15, fa, cT, pT].getD n 0) (fun n => [PySem.W.fnOf "order_keys" "order_keys" (defArgs s_order_keys) (defBody s_order_keys) (defScope s_order_keys) .none kV0 dc0 pm0 an0 cd0 ct0, PySem.W.fnOf "in_order" "in_order" (defArgs s_in_order) (defBody s_in_order) (defScope s_in_order) .none kV1 dc1 pm1 an1 (.ref cT) ct1, PySem.W.fnOf "ends_of" "ends_of" (defArgs s_ends_of) (defBody s_ends_of) (defScope s_ends_of) .none kV2 dc2 pm2 an2 cd2 ct2, PySem.W.fnOf "corners_of" "corners_of" (defArgs s_corners_of) (defBody s_corners_of) (defScope s_corners_of) .none kV3 dc3 pm3 an3 cd3 ct3, PySem.W.fnOf "_law_cell" "_law_cell" (defArgs s_law_cell) (defBody s_law_cell) (defScope s_law_cell) .none kV4 dc4 pm4 an4 cd4 ct4, PySem.W.fnOf "_law_divisor" "_law_divisor" (defArgs s_law_divisor) (defBody s_law_divisor) (defScope s_law_divisor) .none kV5 dc5 pm5 an5 cd5 ct5, PySem.W.fnOf "_law_point" "_law_point" (defArgs s_law_point) (defBody s_law_point) (defScope s_law_point) .none kV6 dc6 pm6 an6 cd6 ct6, PySem.W.fnOf "_law_cells" "_law_cells" (defArgs s_law_cells) (defBody s_law_cells) (defScope s_law_cells) .none kV7 dc7 pm7 an7 cd7 ct7, PySem.W.fnOf "_law_ends" "_law_ends" (defArgs s_law_ends) (defBody s_law_ends) (defScope s_law_ends) .none kV8 dc8 pm8 an8 cd8 ct8, PySem.W.fnOf "_law_edges" "_law_edges" (defArgs s_law_edges) (defBody s_law_edges) (defScope s_law_edges) .none kV9 dc9 pm9 an9 cd9 ct9, PySem.W.fnOf "_law_straight" "_law_straight" (defArgs s_law_straight) (defBody s_law_straight) (defScope s_law_straight) .none kV10 dc10 pm10 an10 cd10 ct10, PySem.W.fnOf "_law_long" "_law_long" (defArgs s_law_long) (defBody s_law_long) (defScope s_law_long) .none kV11 dc11 pm11 an11 cd11 ct11, PySem.W.fnOf "_law_frame" "_law_frame" (defArgs s_law_frame) (defBody s_law_frame) (defScope s_law_frame) .none kV12 dc12 pm12 an12 cd12 ct12, PySem.W.fnOf "_law_moved" "_law_moved" (defArgs s_law_moved) (defBody s_law_moved) (defScope s_law_moved) .none kV13 dc13 pm13 an13 cd13 ct13, PySem.W.fnOf "_law_land" "_law_land" (defArgs s_law_land) (defBody s_law_land) (defScope s_law_land) .none kV14 dc14 pm14 an14 cd14 ct14, PySem.W.fnOf "_law_told" "_law_told" (defArgs s_law_told) (defBody s_law_told) (defScope s_law_told) .none kV15 dc15 pm15 an15 cd15 ct15, PySem.W.fnOf "law" "law" (defArgs s_law) (defBody s_law) (defScope s_law) .none kV16 dc16 pm16 an16 cd16 ct16].getD n (PySem.W.fnOf "order_keys" "order_keys" (defArgs s_order_keys) (defBody s_order_keys) (defScope s_order_keys) .none kV0 dc0 pm0 an0 cd0 ct0)) :=
    ⟨⟨F0, b0, PySem.W.mg_of X G a0⟩, ⟨F1, b1, PySem.W.mg_of X G a1⟩, FC1, ⟨F2, b2, PySem.W.mg_of X G a2⟩, ⟨F3, b3, PySem.W.mg_of X G a3⟩, ⟨F4, b4, PySem.W.mg_of X G a4⟩, ⟨F5, b5, PySem.W.mg_of X G a5⟩, ⟨F6, b6, PySem.W.mg_of X G a6⟩, ⟨F7, b7, PySem.W.mg_of X G a7⟩, ⟨F8, b8, PySem.W.mg_of X G a8⟩, ⟨F9, b9, PySem.W.mg_of X G a9⟩, ⟨F10, b10, PySem.W.mg_of X G a10⟩, ⟨F11, b11, PySem.W.mg_of X G a11⟩, ⟨F12, b12, PySem.W.mg_of X G a12⟩, ⟨F13, b13, PySem.W.mg_of X G a13⟩, ⟨F14, b14, PySem.W.mg_of X G a14⟩, ⟨F15, b15, PySem.W.mg_of X G a15⟩, ⟨F16, b16, PySem.W.mg_of X G a16⟩, PySem.W.mg_none_of X G z0, PySem.W.mg_none_of X G z1, PySem.W.mg_none_of X G z2, PySem.W.mg_none_of X G z3, PySem.W.mg_none_of X G z4, PySem.W.mg_none_of X G z5, PySem.W.mg_none_of X G z6⟩
  exact ⟨PySem.W.fnOf "law" "law" (defArgs s_law) (defBody s_law) (defScope s_law) .none kV16 dc16 pm16 an16 cd16 ct16, [pT], fun b hb => by rw [List.mem_singleton.mp hb]; exact ⟨nT, _, cT, List.mem_singleton.mpr rfl, tT⟩, fun s v => .of_eq rfl, fun base hK _ hB => ok_law T hK (hB _ (List.mem_singleton.mpr rfl))⟩
theorem walk {l : PySem.W.OpenLaw} {q : Program} {loose : List Str} {XP : (Str → Option Value) → Heap → Prop} {YP : World → Heap → Prop} {d : DefRec} {K : Params → PySem.W.Frag} (hn : l.most = some 63) (hdf : d.params.defaults = [])
    (hY : ∀ (w : World) (h : Heap), YP w h → (K w.params).In h) (hD : ∀ y, y ∈ ([Str.ofString "in_order"] : List Str) → ∃ e, (PyProof.Rows.recsOf q).find? (fun e => e.name == y) = some e)
    (F : ∀ (w : World) (mg : Str → Option Value) (fa : Addr) (h : Heap), (K w.params).In h → h.Ns mainGlobals mg → mg d.name = some (.ref fa) →
      ∃ (fd : FuncData) (ts : List Addr), (∀ b, b ∈ ts → (K w.params).lookup b = none ∧ ∃ y c, y ∈ ([Str.ofString "in_order"] : List Str) ∧ PySem.W.tabIn (K w.params) y = some (c, b)) ∧ (∀ (s : Shared) (u : Value), BindsTo s fd ⟨[u], []⟩ [("_law_script", u)]) ∧ ∀ base : Heap, (K w.params).In base → base.Ns mainGlobals mg → (∀ b, b ∈ ts → base.BuiltinsAt mg b) → FnOk l.prog w (K w.params) mg base CX0 5 fa fd ["_law_script"] (sp_lawT (K w.params) ts)) :
    PySem.W.WalkO q loose XP YP l.row.toRowW d [] (fun f vs => PySem.call f vs) :=
  L2.walk_ofT (n := 63) (k := 5) (x := "_law_script") (CX := fun _ => CX0) (sp := fun w ts => sp_lawT (K w.params) ts) (ds := [Str.ofString "in_order"]) hn (by decide) hdf ⟨rfl, by decide, by decide⟩ hY hD F (fun _ _ a ns ts hl hO hS => ⟨a, ns, rfl, hS, hl, fun b hb => lamTab_new (hO.tabs b hb), fun _ => rfl⟩) fun _ _ _ _ _ z => z
end Mine
open PySem PySem.W PyProof.Rows
set_option maxRecDepth 100000 in
set_option maxHeartbeats 0 in
theorem PySem.Challenge.cw_acre_k50_corners_told_holds : PySem.Challenge.rw_acre_k50_corners_told.Holds := by
  w_on; o_law; k_head; (case hw => w_witness2)
  k_fill
  refine Mine.walk (l := PySem.Challenge.rw_acre_k50_corners_told) rfl rfl (fun w h Y => PySem.W.km_in_of Y) (fun y hy => by rw [List.mem_singleton.mp hy]; exact ⟨_, rfl⟩) ?F
  case F =>
    intro w mg fa h KX G hmg
    refine' Mine.all_mk KX G hmg ?a0 ?l0 ?c0 ?k0 ?a1 ?l1 ?c1 ?k1 ?lT ?vT ?hT ?tT ?nT ?a2 ?l2 ?c2 ?k2 ?a3 ?l3 ?c3 ?k3 ?a4 ?l4 ?c4 ?k4 ?a5 ?l5 ?c5 ?k5 ?a6 ?l6 ?c6 ?k6 ?a7 ?l7 ?c7 ?k7 ?a8 ?l8 ?c8 ?k8 ?a9 ?l9 ?c9 ?k9 ?a10 ?l10 ?c10 ?k10 ?a11 ?l11 ?c11 ?k11 ?a12 ?l12 ?c12 ?k12 ?a13 ?l13 ?c13 ?k13 ?a14 ?l14 ?c14 ?k14 ?a15 ?l15 ?c15 ?k15 ?a16 ?l16 ?c16 ?k16 ?z0 ?z1 ?z2 ?z3 ?z4 ?z5 ?z6
    (case a0 => k_is)
    (case l0 => k_is)
    (case c0 => k_is)
    (case k0 => k_is)
    (case a1 => k_is)
    (case l1 => k_is)
    (case c1 => k_is)
    (case k1 => k_is)
    (case lT => k_is)
    (case vT => rfl)
    (case hT => kernel_rfl)
    (case tT => kernel_rfl)
    (case nT => kernel_rfl)
    (case a2 => k_is)
    (case l2 => k_is)
    (case c2 => k_is)
    (case k2 => k_is)
    (case a3 => k_is)
    (case l3 => k_is)
    (case c3 => k_is)
    (case k3 => k_is)
    (case a4 => k_is)
    (case l4 => k_is)
    (case c4 => k_is)
    (case k4 => k_is)
    (case a5 => k_is)
    (case l5 => k_is)
    (case c5 => k_is)
    (case k5 => k_is)
    (case a6 => k_is)
    (case l6 => k_is)
    (case c6 => k_is)
    (case k6 => k_is)
    (case a7 => k_is)
    (case l7 => k_is)
    (case c7 => k_is)
    (case k7 => k_is)
    (case a8 => k_is)
    (case l8 => k_is)
    (case c8 => k_is)
    (case k8 => k_is)
    (case a9 => k_is)
    (case l9 => k_is)
    (case c9 => k_is)
    (case k9 => k_is)
    (case a10 => k_is)
    (case l10 => k_is)
    (case c10 => k_is)
    (case k10 => k_is)
    (case a11 => k_is)
    (case l11 => k_is)
    (case c11 => k_is)
    (case k11 => k_is)
    (case a12 => k_is)
    (case l12 => k_is)
    (case c12 => k_is)
    (case k12 => k_is)
    (case a13 => k_is)
    (case l13 => k_is)
    (case c13 => k_is)
    (case k13 => k_is)
    (case a14 => k_is)
    (case l14 => k_is)
    (case c14 => k_is)
    (case k14 => k_is)
    (case a15 => k_is)
    (case l15 => k_is)
    (case c15 => k_is)
    (case k15 => k_is)
    (case a16 => k_is)
    (case l16 => k_is)
    (case c16 => k_is)
    (case k16 => k_is)
    (case z0 => k_is)
    (case z1 => k_is)
    (case z2 => k_is)
    (case z3 => k_is)
    (case z4 => k_is)
    (case z5 => k_is)
    (case z6 => k_is)
import PyProof.Rows.All
import Wide.All
import OpenK.AllK
import Wide.FinOn
import Lean
import PyProof.EqAt
import PyProof.EqKinds
import PyProof.TupleCall
import PySem.Challenge.RW_acre_k71_numbers_and_points
-- CHANGE: your row's module here, as the last of these rows
set_option Elab.async false
set_option linter.all false
set_option maxRecDepth 100000
namespace L2
open PySem PySem.Spec PyProof.Rows
abbrev Key := Sum Int Str
def keyIs : Key → Value → Bool
  | .inl k, v => Value.isInt k v
  | .inr x, v => Value.isStrOf x v
def keyH (w : World) : Key → Int
  | .inl k => hashInt k
  | .inr x => hashStr w x
theorem keyIs_shape : ∀ {k : Key} {v : Value}, keyIs k v = true → (∃ i t, k = Sum.inl i ∧ v = Value.int i t) ∨ (∃ x t, k = Sum.inr x ∧ v = Value.str x t)
  | .inl i, v, h => by
    obtain ⟨t, e⟩ := Value.isInt_shape (k := i) (v := v) h
    exact .inl ⟨i, t, rfl, e⟩
  | .inr x, v, h => by
    obtain ⟨t, e⟩ := Value.isStrOf_shape (x := x) (v := v) h
    exact .inr ⟨x, t, rfl, e⟩
theorem keyIs_int (i : Int) (t : Tok) : keyIs (.inl i) (.int i t) = true := by simp [keyIs, Value.isInt]
theorem keyIs_str (x : Str) (t : Tok) : keyIs (.inr x) (.str x t) = true := by simp [keyIs, Value.isStrOf]
theorem key_ll (a b : Int) : decide ((Sum.inl a : Key) = Sum.inl b) = (a == b) := by
  by_cases e : a = b
  · subst e; simp
  · have h : ¬ (Sum.inl a : Key) = Sum.inl b := fun q => e (Sum.inl.inj q)
    rw [decide_eq_false h]
    exact (beq_eq_false_iff_ne.mpr e).symm
theorem key_rr (a b : Str) : decide ((Sum.inr a : Key) = Sum.inr b) = decide (a = b) := by
  by_cases e : a = b
  · subst e; simp
  · have h : ¬ (Sum.inr a : Key) = Sum.inr b := fun q => e (Sum.inr.inj q)
    rw [decide_eq_false h, decide_eq_false e]
theorem key_lr (a : Int) (b : Str) : decide ((Sum.inl a : Key) = Sum.inr b) = false := decide_eq_false (fun q => nomatch q)
theorem key_rl (a : Str) (b : Int) : decide ((Sum.inr a : Key) = Sum.inl b) = false := decide_eq_false (fun q => nomatch q)
def mixKind (prog : Program) (w : World) : PySem.KeyKind prog w Key where
  is := keyIs
  hash := keyH w
  inj := fun v a b ha hb => by
    rcases keyIs_shape ha with ⟨i, t, rfl, rfl⟩ | ⟨x, t, rfl, rfl⟩
    · rcases keyIs_shape hb with ⟨j, u, rfl, e⟩ | ⟨y, u, rfl, e⟩
      · injection e with e1 _; rw [e1]
      · exact nomatch e
    · rcases keyIs_shape hb with ⟨j, u, rfl, e⟩ | ⟨y, u, rfl, e⟩
      · exact nomatch e
      · injection e with e1 _; rw [e1]
  byValue := fun k v h => by
    rcases keyIs_shape h with ⟨i, t, rfl, rfl⟩ | ⟨x, t, rfl, rfl⟩ <;> rfl
  pyHash := fun hv h => by
    rcases keyIs_shape hv with ⟨i, t, rfl, rfl⟩ | ⟨x, t, rfl, rfl⟩
    · exact wpAny_pyHash_int h
    · exact wpAny_pyHash_str h
  eqBool := fun hu hv h => by
    rcases keyIs_shape hu with ⟨i, t, rfl, rfl⟩ | ⟨x, t, rfl, rfl⟩
    · rcases keyIs_shape hv with ⟨j, u, rfl, rfl⟩ | ⟨y, u, rfl, rfl⟩
      · rw [key_ll] at h; exact wpAny_eqBool_int h
      · rw [key_lr] at h; exact SeqAt.EqAt.int_str i t y u _ _ _ _ h
    · rcases keyIs_shape hv with ⟨j, u, rfl, rfl⟩ | ⟨y, u, rfl, rfl⟩
      · rw [key_rl] at h; exact SeqAt.EqAt.str_int x t j u _ _ _ _ h
      · rw [key_rr] at h; exact wpAny_eqBool_str h
  «strs» := fun k x t v h => by
    rcases keyIs_shape h with ⟨i, u, rfl, e⟩ | ⟨y, u, rfl, e⟩
    · exact nomatch e
    · injection e with e1 _
      subst e1
      cases v <;> rfl
theorem mixKind_is (prog : Program) (w : World) (k : Key) (v : Value) : (mixKind prog w).is k v = keyIs k v := rfl
theorem mixKind_int (prog : Program) (w : World) (i : Int) (t : Tok) : (mixKind prog w).is (.inl i) (.int i t) = true := keyIs_int i t
theorem mixKind_str (prog : Program) (w : World) (x : Str) (t : Tok) : (mixKind prog w).is (.inr x) (.str x t) = true := keyIs_str x t
end L2
namespace L2
open PySem PySem.Spec PyProof.Rows
inductive V where
  | non | bl (b : Bool) | int (i : Int) | str (x : Str) | byt (b : Array UInt8) | flt (b : UInt64) | ref (a : Addr) | ty (n : String)
  deriving DecidableEq
def RelV : V → Value → Prop
  | .non, u => u = Value.none
  | .bl b, u => u = Value.bool b
  | .int i, u => ∃ t, u = Value.int i t
  | .str x, u => ∃ t, u = Value.str x t
  | .byt b, u => ∃ t, u = Value.bytes b t
  | .flt b, u => ∃ t, u = Value.float b t
  | .ref a, u => u = Value.ref a
  | .ty n, u => u = Value.type n
abbrev Vals : List V → List Value → Prop := Paired RelV
theorem Vals.length {xs : List V} {us : List Value} (r : Vals xs us) : xs.length = us.length := Paired.length r
theorem Vals.get : ∀ {xs : List V} {us : List Value} {i : Nat} {x : V}, Vals xs us → xs[i]? = some x → ∃ u, us[i]? = some u ∧ RelV x u
  | _, _, _, _, .nil, e => by simp at e
  | _, _, 0, _, .cons r _, e => by simp at e; subst e; exact ⟨_, rfl, r⟩
  | _, _, i + 1, x, .cons _ t, e => by
    obtain ⟨u, h1, h2⟩ := Vals.get (i := i) (x := x) t (by simpa using e)
    exact ⟨u, by simpa using h1, h2⟩
theorem Vals.set {x : V} {u : Value} (r : RelV x u) : ∀ {xs : List V} {us : List Value} (i : Nat), Vals xs us → Vals (xs.set i x) (us.set i u)
  | _, _, _, .nil => .nil
  | _, _, 0, .cons _ t => .cons r t
  | _, _, i + 1, .cons q t => .cons q (Vals.set r i t)
theorem Vals.append : ∀ {xs ys : List V} {us ws : List Value}, Vals xs us → Vals ys ws → Vals (xs ++ ys) (us ++ ws)
  | _, _, _, _, .nil, s => s
  | _, _, _, _, .cons r t, s => .cons r (Vals.append t s)
theorem Vals.take : ∀ {xs : List V} {us : List Value} (n : Nat), Vals xs us → Vals (xs.take n) (us.take n)
  | _, _, 0, _ => .nil
  | _, _, _ + 1, .nil => .nil
  | _, _, n + 1, .cons r t => .cons r (Vals.take n t)
theorem Vals.drop : ∀ {xs : List V} {us : List Value} (n : Nat), Vals xs us → Vals (xs.drop n) (us.drop n)
  | _, _, 0, r => r
  | _, _, _ + 1, .nil => .nil
  | _, _, n + 1, .cons _ t => Vals.drop n t
theorem Vals.none_of : ∀ {xs : List V} {us : List Value} {i : Nat}, Vals xs us → xs[i]? = none → us[i]? = none := fun {xs us i} r e => by
  have h1 := r.length
  have h2 : xs.length ≤ i := List.getElem?_eq_none_iff.mp e
  exact List.getElem?_eq_none_iff.mpr (by omega)
def RelO : Option V → Option Value → Prop
  | some v, some u => RelV v u
  | none, none => True
  | _, _ => False
def KV {κ : Type} : List (κ × V) → List (κ × Value) → Prop := Paired fun (p : κ × V) (q : κ × Value) => p.1 = q.1 ∧ RelV p.2 q.2
def kV : Key → V
  | .inl i => .int i
  | .inr x => .str x
inductive HO where
  /-- a list -/
  | lst (xs : List V)
  /-- a tuple (never changes) -/
  | tup (xs : List V)
  /-- a dict whose keys are ints and texts; one whose keys are tuples of ints and texts (the empty one is both) -/
  | dK (kvs : List (Key × V)) | dT (kvs : List (List Key × V))
  /-- a set of ints: its members, its size -/
  | set (S : Int → Bool) (n : Nat)
  /-- an instance of the class at C, its dict at dx, its attributes -/
  | ins (C dx : Addr) (fs : List (Str × V))
  /-- the dict of the instance at x -/
  | own (x : Addr)
  /-- the dict of an exception -/
  | xd (fs : List (Str × V))
  /-- a bound method, f of x -/
  | met (f x : Addr)
  /-- a range object lo, lo + 1, .. below hi -/
  | rng (lo hi : Int)
  /-- a thing that is known to the object (the script; a dict while a loop walks it): read, never written while it is so -/
  | frz (o : Obj) (u : HO)
  /-- a code object's table -/
  | tbl (ps : Array Value)
  /-- any other thing, by what is true of its one object (a def of one's own: SetO a S n := HO.ext fun h => ..) -/
  | ext (φ : Heap → Prop)
abbrev Hp := Addr → Option HO
def upd (H : Hp) (a : Addr) (o : HO) : Hp := fun b => if b = a then some o else H b
theorem upd_same {H : Hp} {a : Addr} {o : HO} : upd H a o a = some o := by unfold upd; rw [if_pos rfl]
theorem upd_ne {H : Hp} {a b : Addr} {o : HO} (h : b ≠ a) : upd H a o b = H b := by unfold upd; rw [if_neg h]
theorem upd_upd {H : Hp} {a : Addr} {o u : HO} : upd (upd H a o) a u = upd H a u := by
  funext b; unfold upd; split <;> rfl
theorem ne_of {H : Hp} {a b : Addr} {o u : HO} (h : H a = some o) (h' : H b = some u) (d : o ≠ u) : a ≠ b := by
  intro e; subst e; rw [h] at h'; exact d (Option.some.inj h')
theorem ne_of_none {H : Hp} {a b : Addr} {o : HO} (h : H a = some o) (h' : H b = none) : a ≠ b := by
  intro e; subst e; rw [h] at h'; cases h'
section
variable (P : Program) (w : World)
def ObjOk (H : Hp) (h : Heap) (a : Addr) : HO → Prop
  | .lst xs => xs.length ≤ sizeLine ∧ ∃ (its : List Value) (n : Nat), Vals xs its ∧ h.get? a = some { cls := .type "list", data := .seq its.toArray n }
  | .tup xs => xs.length ≤ sizeLine ∧ ∃ its : List Value, Vals xs its ∧ IsTup h a its.toArray
  | .dK kvs => kvs.length ≤ sizeLine ∧ (a == sysModules) = false ∧ ∃ vs, KV kvs vs ∧ h.DictOf (mixKind P w) a vs
  | .dT kvs => kvs.length ≤ sizeLine ∧ (a == sysModules) = false ∧ ∃ xs : List (List Key × Addr × Value),
      Paired (fun (p : List Key × V) (q : List Key × Addr × Value) => p.1 = q.1 ∧ H q.2.1 = some (.tup (p.1.map kV)) ∧ RelV p.2 q.2.2) kvs xs ∧
      ∃ o es ep, h.get? a = some o ∧ o.ExactDict ∧ o.data = .dict es ep ∧ es.toList = xs.map (entryOfKey (tupleKind (mixKind P w))) ∧ (xs.map (·.1)).Nodup
  | .set S n => h.SetOf (intKind P w) a S n
  | .ins C dx fs => H dx = some (.own a) ∧ fs.length ≤ 1000 ∧ dx ≠ a ∧ h.get? a = some (PySem.W.instObj C dx) ∧
      ∃ mA, h.Ns1 dx mA ∧ (∀ f, RelO (fs.lookup f) (mA f)) ∧ PySem.Within mA (fs.map (·.1))
  | .own _ => ∃ o, h.get? a = some o
  | .xd fs => ∃ mA, h.Ns1 a mA ∧ ∀ f, RelO (fs.lookup f) (mA f)
  | .rng lo hi => ∃ t u v, h.get? a = some { cls := .type "range", data := .fields #[.int lo t, .int hi u, .int 1 v] }
  | .frz o u => h.get? a = some o ∧ ObjOk H h a u
  | .tbl ps => h.get? a = some { cls := .none, data := .fields ps }
  | .met f x => h.get? a = some (PySem.W.methodObj (.ref f) (.ref x))
  | .ext φ => φ h ∧ (∃ o, h.get? a = some o) ∧ ∀ h1 h2 : Heap, φ h1 → (∀ o, h1.get? a = some o → h2.get? a = some o) → φ h2
def HOk (H : Hp) (h : Heap) : Prop := ∀ a o, H a = some o → ObjOk P w H h a o
end
section
variable {P : Program} {w : World} {H H' : Hp} {h h' : Heap} {a : Addr} {o : HO}
theorem ObjOk.lt (x : ObjOk P w H h a o) : a < h.objs.size := by
  cases o with
  | lst xs => obtain ⟨_, _, _, _, e⟩ := x; exact Heap.lt_size e
  | tup xs => obtain ⟨_, _, _, p⟩ := x; exact p.lt
  | dK kvs => obtain ⟨_, _, _, _, o, _, _, e, _⟩ := x; exact Heap.lt_size e
  | dT kvs => obtain ⟨_, _, _, _, o, _, _, e, _⟩ := x; exact Heap.lt_size e
  | set S n => obtain ⟨o, _, _, _, e, _⟩ := x; exact Heap.lt_size e
  | ins C dx fs => obtain ⟨_, _, _, e, _⟩ := x; exact Heap.lt_size e
  | own y => obtain ⟨_, e⟩ := x; exact Heap.lt_size e
  | xd fs => obtain ⟨_, ⟨_, _, _, e, _⟩, _⟩ := x; exact Heap.lt_size e
  | rng lo hi => obtain ⟨_, _, _, e⟩ := x; exact Heap.lt_size e
  | frz ob u => obtain ⟨e, _⟩ := x; exact Heap.lt_size e
  | tbl ps => exact Heap.lt_size (show h.get? a = some _ from x)
  | met f y => exact Heap.lt_size (show h.get? a = some _ from x)
  | ext φ => obtain ⟨_, ⟨_, e⟩, _⟩ := x; exact Heap.lt_size e
theorem Paired.mapP {α β : Type} {F G : α → β → Prop} : ∀ {l₁ : List α} {l₂ : List β}, Paired F l₁ l₂ → (∀ a b, F a b → G a b) → Paired G l₁ l₂
  | _, _, .nil, _ => .nil
  | _, _, .cons r t, f => .cons (f _ _ r) (Paired.mapP t f)
theorem Paired.imp' {α β : Type} {F G : α → β → Prop} (f : ∀ a b, F a b → G a b) {l₁ : List α} {l₂ : List β} (r : Paired F l₁ l₂) : Paired G l₁ l₂ := Paired.mapP r f
theorem ObjOk.stay (x : ObjOk P w H h a o) (k : ∀ b u, (b = a ∨ H b = some (.own a)) → h.get? b = some u → h'.get? b = some u)
    (ho : ∀ b, H b = some (.own a) → H' b = some (.own a)) (ht : ∀ b xs, H b = some (.tup xs) → H' b = some (.tup xs)) : ObjOk P w H' h' a o := by
  induction o with
  | lst xs => obtain ⟨z, its, n, r, e⟩ := x; exact ⟨z, its, n, r, k _ _ (.inl rfl) e⟩
  | tup xs => obtain ⟨z, its, r, ob, e, c⟩ := x; exact ⟨z, its, r, ob, k _ _ (.inl rfl) e, c⟩
  | dK kvs => obtain ⟨z, y, vs, r, ob, es, ep, e, c⟩ := x; exact ⟨z, y, vs, r, ob, es, ep, k _ _ (.inl rfl) e, c⟩
  | dT kvs =>
    obtain ⟨z, y, xs, r, ob, es, ep, e, c⟩ := x
    exact ⟨z, y, xs, Paired.mapP r fun p q z => ⟨z.1, ht _ _ z.2.1, z.2.2⟩, ob, es, ep, k _ _ (.inl rfl) e, c⟩
  | set S n => obtain ⟨ob, es, ep, t, e, c⟩ := x; exact ⟨ob, es, ep, t, k _ _ (.inl rfl) e, c⟩
  | ins C dx fs =>
    obtain ⟨d, z, ne, e, mA, ⟨od, es, ep, e2, c⟩, r⟩ := x
    exact ⟨ho _ d, z, ne, k _ _ (.inl rfl) e, mA, ⟨od, es, ep, k _ _ (.inr d) e2, c⟩, r⟩
  | own y => obtain ⟨ob, e⟩ := x; exact ⟨ob, k _ _ (.inl rfl) e⟩
  | xd fs => obtain ⟨mA, ⟨od, es, ep, e, c⟩, r⟩ := x; exact ⟨mA, ⟨od, es, ep, k _ _ (.inl rfl) e, c⟩, r⟩
  | rng lo hi => obtain ⟨t, u, v, e⟩ := x; exact ⟨t, u, v, k _ _ (.inl rfl) e⟩
  | frz ob u ih => obtain ⟨e, q⟩ := x; exact ⟨k _ _ (.inl rfl) e, ih q⟩
  | tbl ps =>
    have e : h.get? a = some { cls := .none, data := .fields ps } := x
    show h'.get? a = some { cls := .none, data := .fields ps }
    exact k a _ (.inl rfl) e
  | met f y =>
    have e : h.get? a = some (PySem.W.methodObj (.ref f) (.ref y)) := x
    show h'.get? a = some (PySem.W.methodObj (.ref f) (.ref y))
    exact k a _ (.inl rfl) e
  | ext φ => obtain ⟨p, ⟨o, e⟩, st⟩ := x; exact ⟨st _ _ p fun o q => k _ _ (.inl rfl) q, ⟨o, k _ _ (.inl rfl) e⟩, st⟩
theorem HOk.lt (x : HOk P w H h) (e : H a = some o) : a < h.objs.size := (x a o e).lt
theorem HOk.fresh (x : HOk P w H h) (e : h.objs.size ≤ a) : H a = none := by
  cases q : H a with
  | none => rfl
  | some u => exact absurd (Nat.lt_of_lt_of_le (x.lt q) e) (Nat.lt_irrefl _)
theorem HOk.kept (x : HOk P w H h) (k : ∀ b u, h.get? b = some u → h'.get? b = some u) : HOk P w H h' := fun a o e =>
  (x a o e).stay (fun b u _ q => k b u q) (fun _ q => q) fun _ _ q => q
theorem HOk.laid (x : HOk P w H h) (k : ∀ b u, h.get? b = some u → h'.get? b = some u) (hp : h.objs.size ≤ a) (new : ObjOk P w (upd H a o) h' a o) : HOk P w (upd H a o) h' := fun b u e => by
  have hn := x.fresh hp
  by_cases hb : b = a
  · subst hb; rw [upd_same] at e; cases e; exact new
  · rw [upd_ne hb] at e
    exact (x b u e).stay (fun c v _ q => k c v q) (fun c q => by rw [upd_ne (ne_of_none q hn)]; exact q) fun c xs q => by rw [upd_ne (ne_of_none q hn)]; exact q
end
def Rd (H : Hp) (a : Addr) (u : HO) : Prop := H a = some u ∨ ∃ o, H a = some (.frz o u)
theorem Rd.of {H : Hp} {a : Addr} {u : HO} (h : H a = some u) : Rd H a u := .inl h
theorem Rd.ok {P : Program} {w : World} {H : Hp} {h : Heap} {a : Addr} {u : HO} (r : Rd H a u) (x : HOk P w H h) : ObjOk P w H h a u := by
  rcases r with r | ⟨o, r⟩
  · exact x a u r
  · obtain ⟨_, q⟩ := x a _ r
    exact q
def Mut : Option HO → Prop
  | some (.lst _) => True
  | some (.dK _) => True
  | some (.dT _) => True
  | some (.set _ _) => True
  | some (.ins _ _ _) => True
  | some (.ext _) => True
  | _ => False
section
variable {P : Program} {w : World} {H : Hp} {h h' : Heap} {x e : Addr} {o' : HO}
theorem HOk.write (ok : HOk P w H h) (mu : Mut (H x)) (he : e = x ∨ H e = some (.own x)) (k : ∀ b u, b ≠ e → h.get? b = some u → h'.get? b = some u) (heo : ∃ u, h'.get? e = some u)
    (new : ObjOk P w (upd H x o') h' x o') : HOk P w (upd H x o') h' := fun b u q => by
  have nown : ∀ c y, H c = some (.own y) → c ≠ x := fun c y r z => by subst z; rw [r] at mu; exact mu
  have ntup : ∀ c xs, H c = some (.tup xs) → c ≠ x := fun c xs r z => by subst z; rw [r] at mu; exact mu
  by_cases hb : b = x
  · subst hb; rw [upd_same] at q; cases q; exact new
  · rw [upd_ne hb] at q
    by_cases hbe : b = e
    · have q' : H b = some (.own x) := by
        rcases he with z | z
        · exact absurd (hbe.trans z) hb
        · rw [hbe]; exact z
      rw [q] at q'; cases q'
      obtain ⟨v, hv⟩ := heo
      exact ⟨v, by rw [hbe]; exact hv⟩
    · refine (ok b u q).stay (fun c v hc r => k c v ?_ r) (fun c r => by rw [upd_ne (nown c b r)]; exact r) fun c xs r => by rw [upd_ne (ntup c xs r)]; exact r
      rcases hc with rfl | hc
      · exact hbe
      · rintro rfl
        rcases he with z | z
        · exact nown c b hc z
        · rw [hc] at z; cases z; exact hb rfl
end
structure Un (fs ex : List Addr) (H H' : Hp) (h h' : Heap) : Prop where
  keep : ∀ b o, h.get? b = some o → H b = none → b ∉ fs → b ∉ ex → h'.get? b = some o
  slot : ∀ b o, h.get? b = some o → H b = none → b ∈ fs → b ∉ ex → ∃ sl, h'.get? b = some { o with slots := sl }
  free : ∀ b o, h.get? b = some o → H b = none → b ∉ ex → H' b = none
  there : ∀ b o, h.get? b = some o → b ∉ ex → ∃ o', h'.get? b = some o'
  tups : ∀ b xs, H b = some (.tup xs) → H' b = some (.tup xs)
  frzs : ∀ b o u, H b = some (.frz o u) → H' b = some (.frz o u)
  tbls : ∀ b ps, H b = some (.tbl ps) → ∃ more, H' b = some (.tbl (ps ++ more))
section
variable {fs fs' ex ex' : List Addr} {H H1 H2 : Hp} {h h1 h2 h' : Heap} {a x e : Addr} {o : HO}
theorem Un.any (u : Un fs ex H H1 h h1) {b : Addr} {ob : Obj} (q : h.get? b = some ob) (n : H b = none) (hx : b ∉ ex) : ∃ sl, h1.get? b = some { ob with slots := sl } := by
  by_cases hb : b ∈ fs
  · exact u.slot b ob q n hb hx
  · exact ⟨ob.slots, u.keep b ob q n hb hx⟩
theorem Un.trans (a : Un fs ex H H1 h h1) (b : Un fs ex H1 H2 h1 h2) : Un fs ex H H2 h h2 where
  keep := fun c ob q n hc hx => b.keep c ob (a.keep c ob q n hc hx) (a.free c ob q n hx) hc hx
  slot := fun c ob q n hc hx => by
    obtain ⟨sl, e1⟩ := a.slot c ob q n hc hx
    obtain ⟨sl', e2⟩ := b.slot c _ e1 (a.free c ob q n hx) hc hx
    exact ⟨sl', e2⟩
  free := fun c ob q n hx => by
    obtain ⟨o', e1⟩ := a.there c ob q hx
    exact b.free c o' e1 (a.free c ob q n hx) hx
  there := fun c ob q hx => by
    obtain ⟨o', e1⟩ := a.there c ob q hx
    exact b.there c o' e1 hx
  tups := fun c xs q => b.tups c xs (a.tups c xs q)
  frzs := fun c ob xs q => b.frzs c ob xs (a.frzs c ob xs q)
  tbls := fun c ps q => by
    obtain ⟨m1, e1⟩ := a.tbls c ps q
    obtain ⟨m2, e2⟩ := b.tbls c _ e1
    exact ⟨m1 ++ m2, by rw [e2, Array.append_assoc]⟩
theorem Un.kept (k : ∀ b u, h.get? b = some u → h'.get? b = some u) : Un fs ex H H h h' :=
  ⟨fun b ob q _ _ _ => k b ob q, fun b ob q _ _ _ => ⟨ob.slots, k b ob q⟩, fun _ _ _ n _ => n, fun b ob q _ => ⟨ob, k b ob q⟩, fun _ _ q => q, fun _ _ _ q => q, fun _ ps q => ⟨#[], by rw [q]; simp⟩⟩
theorem Un.refl : Un fs ex H H h h := Un.kept fun _ _ q => q
theorem Un.laid (k : ∀ b u, h.get? b = some u → h'.get? b = some u) (hp : h.objs.size ≤ a) (hn : H a = none) : Un fs ex H (upd H a o) h h' where
  keep := fun b u q _ _ _ => k b u q
  slot := fun b u q _ _ _ => ⟨u.slots, k b u q⟩
  free := fun b u q n _ => by rw [upd_ne (Nat.ne_of_lt (Nat.lt_of_lt_of_le (Heap.lt_size q) hp))]; exact n
  there := fun b u q _ => ⟨u, k b u q⟩
  tups := fun b xs q => by rw [upd_ne (ne_of_none q hn)]; exact q
  frzs := fun b u xs q => by rw [upd_ne (ne_of_none q hn)]; exact q
  tbls := fun b ps q => ⟨#[], by rw [upd_ne (ne_of_none q hn), q]; simp⟩
theorem Un.write (mu : Mut (H x)) (he : e = x ∨ H e = some (.own x)) (k : ∀ b u, b ≠ e → h.get? b = some u → h'.get? b = some u) (heo : ∃ u, h'.get? e = some u) : Un fs ex H (upd H x o) h h' := by
  have hx : ∀ b, H b = none → b ≠ x := fun b n z => by subst z; rw [n] at mu; exact mu
  have hb : ∀ b, H b = none → b ≠ e := fun b n z => by
    subst z
    rcases he with r | r
    · exact hx b n r
    · rw [n] at r; cases r
  have hm : ∀ b u, H b = some u → ¬ Mut (some u) → b ≠ x := fun b u q nm z => by subst z; rw [q] at mu; exact nm mu
  refine ⟨fun b u q n _ _ => k b u (hb b n) q, fun b u q n _ _ => ⟨u.slots, k b u (hb b n) q⟩, fun b u q n _ => by rw [upd_ne (hx b n)]; exact n, fun b u q _ => ?_,
    fun b xs q => by rw [upd_ne (hm b _ q fun z => z)]; exact q, fun b u xs q => by rw [upd_ne (hm b _ q fun z => z)]; exact q, fun b ps q => ⟨#[], by rw [upd_ne (hm b _ q fun z => z), q]; simp⟩⟩
  by_cases hbe : b = e
  · subst hbe; exact heo
  · exact ⟨u, k b u hbe q⟩
theorem Un.mono (u : Un fs ex H H1 h h1) (hs : ∀ b ∈ fs, b ∈ fs') (hx : ∀ b ∈ ex, b ∈ ex') : Un fs' ex' H H1 h h1 :=
  ⟨fun b ob q n hb he => u.keep b ob q n (fun z => hb (hs b z)) fun z => he (hx b z), fun _ _ q n _ he => u.any q n fun z => he (hx _ z), fun b ob q n he => u.free b ob q n fun z => he (hx b z), fun b ob q he => u.there b ob q fun z => he (hx b z), u.tups, u.frzs, u.tbls⟩
end
def trk (h : Heap) (H : Hp) : List Addr := (List.range h.objs.size).filter fun a => (H a).isSome
def hidT (h : Heap) (H : Hp) : Heap := PySem.W.hideAll h (trk h H)
theorem hidT_size (h : Heap) (H : Hp) : (hidT h H).objs.size = h.objs.size := PySem.W.hideAll_size _ _
theorem hidT_get {h : Heap} {H : Hp} {b : Addr} {o : Obj} (e : h.get? b = some o) (n : H b = none) : (hidT h H).get? b = some o :=
  PySem.W.hideAll_get _ e fun hm => by
    have q : (H b).isSome = true := (List.mem_filter.mp hm).2
    rw [n] at q; simp at q
theorem of_hidT {h : Heap} {H : Hp} {b : Addr} {o : Obj} (e : (hidT h H).get? b = some o) : h.get? b = some o ∧ H b = none := by
  have e' : h.get? b = some o := PySem.W.of_hideAll (trk h H) e
  refine ⟨e', ?_⟩
  cases q : H b with
  | none => rfl
  | some x =>
    have hm : b ∈ trk h H := List.mem_filter.mpr ⟨List.mem_range.mpr (Heap.lt_size e'), by simp [q]⟩
    have z : (hidT h H).get? b = none := PySem.W.hideAll_none (trk h H) hm
    rw [z] at e; cases e
def allNews (g h : Heap) (L : Addr) : List (Addr × Obj) := (List.range h.objs.size).filterMap fun a => if a = L ∨ (g.get? a).isSome = true then none else (h.get? a).map fun o => (a, o)
theorem mem_allNews {g h : Heap} {L a : Addr} {o : Obj} (h1 : a ≠ L) (h2 : g.get? a = none) (h3 : h.get? a = some o) : (a, o) ∈ allNews g h L :=
  List.mem_filterMap.mpr ⟨a, List.mem_range.mpr (Heap.lt_size h3), by simp [h1, h2, h3]⟩
theorem of_mem_allNews {g h : Heap} {L : Addr} {p : Addr × Obj} (hp : p ∈ allNews g h L) : p.1 ≠ L ∧ g.get? p.1 = none ∧ h.get? p.1 = some p.2 := by
  obtain ⟨b, _, e⟩ := List.mem_filterMap.mp hp
  split at e
  · cases e
  · rename_i hn
    cases q : h.get? b with
    | none => rw [q] at e; simp at e
    | some u =>
      rw [q] at e
      simp only [Option.map_some, Option.some.injEq] at e
      subst e
      refine ⟨fun z => hn (.inl z), ?_, q⟩
      show g.get? b = none
      cases r : g.get? b with
      | none => rfl
      | some v => exact (hn (.inr (by simp [r]))).elim
def rest (g h : Heap) (L d : Addr) : List (Addr × Obj) := (allNews g h L).filter fun p => decide (p.1 ≠ d)
theorem rest_ne {g h : Heap} {L d : Addr} : ∀ p ∈ rest g h L d, p.1 ≠ d := fun p hp => of_decide_eq_true (List.mem_filter.mp hp).2
theorem mem_rest {g h : Heap} {L d a : Addr} {o : Obj} (h1 : a ≠ L) (h2 : g.get? a = none) (h3 : h.get? a = some o) (h4 : a ≠ d) : (a, o) ∈ rest g h L d :=
  List.mem_filter.mpr ⟨mem_allNews h1 h2 h3, decide_eq_true h4⟩
theorem news_all {g h : Heap} {L : Addr} : News g L h (allNews g h L) := fun p hp => let ⟨a, b, c⟩ := of_mem_allNews hp; ⟨c, a, b⟩
theorem news_at {g h : Heap} {L d : Addr} {o : Obj} (h1 : d ≠ L) (h2 : g.get? d = none) (h3 : h.get? d = some o) : News g L h ((d, o) :: rest g h L d) := fun p hp => by
  rcases List.mem_cons.mp hp with rfl | hp
  · exact ⟨h3, h1, h2⟩
  · exact news_all p (List.mem_filter.mp hp).1
theorem kept_of_news {g h h' : Heap} {L d : Addr} {m : Str → Option Value} (k : ∀ b o, g.get? b = some o → h.get? b = some o) (F : Fr g L h' m) (N : News g L h' (rest g h L d)) :
    ∀ b o, b ≠ L → b ≠ d → h.get? b = some o → h'.get? b = some o := fun b o h1 h2 e => by
  cases q : g.get? b with
  | some u =>
    have := k b u q
    rw [e] at this; cases this
    exact F.keep b _ q
  | none => exact (N (b, o) (mem_rest h1 q e h2)).1
end L2
namespace L2
open PySem PySem.Spec PyProof.Rows
structure Mod (K : PySem.W.Frag) (mg : Str → Option Value) (base : Heap) : Prop where
  kin : K.In base
  glob : base.Ns mainGlobals mg
  blt : ∃ mb, base.Ns builtinsNs mb ∧ ∀ x : Str, x ≠ "__name__" → mb x = bootBuiltins x
  nolimit : base.NoLimit
/-- the context: a def's body (or a comprehension's block) running. base: fixed through the whole law; s₀, H₀: the entry; outer: the frames whose slots others may change (a def's callers); stack: all frames that run;
   ex: iterators that were made ahead of the entry and are walked here (a comprehension's); fn: the names whose cells were made at the entry (a def: all; a comprehension's block: its own); calm: not within an except suite; pn: pins that every state bears; xe: what is wanted of an exception that leaves the code -/
structure Cx where
  prog : Program
  w : World
  K : PySem.W.Frag
  mg : Str → Option Value
  base : Heap
  A : Around
  N : List Str
  s₀ : Shared
  H₀ : Hp
  env : Env
  outer : List Env
  stack : List Env
  ex : List Addr
  fn : Str → Bool
  calm : Bool
  pn : List (Addr × Obj)
  xe : Value → Shared → Prop
def frs (l : List Env) : List Addr := l.filterMap (·.frame)
abbrev Cx.fs (X : Cx) : List Addr := frs X.outer
def Vis (sc : Scope) (x : Str) : Prop := sc.names.lookup x = some .local ∨ sc.names.lookup x = some .cell ∨ sc.names.lookup x = some .free
def Loc (sc : Scope) (x : Str) : Prop := sc.names.lookup x = some .local ∨ sc.names.lookup x = some .cell
def Look (env : Env) (h : Heap) (m : Str → Option Value) (x : Str) (u : Value) : Prop :=
  (env.kindOf x = some .local ∧ m x = some u) ∨ ((env.kindOf x = some .cell ∨ env.kindOf x = some .free) ∧ ∃ c, env.cells.lookup x = some c ∧ h.IsCell c (some u))
structure Cx.Ok (X : Cx) : Prop where
  mod : Mod X.K X.mg X.base
  kind : X.env.scope.kind = .function
  glob : X.env.globals = mainGlobals
  blt : X.env.builtins = builtinsNs
  above : X.s₀.heap.objs.size ≤ X.env.locals
  inj : ∀ x y c, X.env.cells.lookup x = some c → X.env.cells.lookup y = some c → x = y
  has : ∀ x, (X.env.kindOf x = some .cell ∨ X.env.kindOf x = some .free) → ∃ c, X.env.cells.lookup x = some c
  cab : ∀ x c, X.fn x = true → X.env.cells.lookup x = some c → X.s₀.heap.objs.size ≤ c
  hd : X.calm = true → X.A.handled = none
  frames : X.A.frames = some X.stack
  stk : X.stack = X.outer ∨ (X.stack = X.env :: X.outer ∧ X.env.frame = some X.env.locals)
  exf : ∀ b ∈ X.ex, b ≠ X.env.locals ∧ ∀ x c, X.env.cells.lookup x = some c → c ≠ b
  bs : ∀ b o, X.base.get? b = some o → X.s₀.heap.get? b = some o ∧ X.H₀ b = none
  bsz : X.base.objs.size ≤ X.s₀.heap.objs.size
  noex : ∀ b o, X.base.get? b = some o → b ∉ X.ex
  exfs : ∀ b ∈ X.ex, b ∉ X.fs
  funs : X.s₀.heap.FunFrames X.base X.outer
  frf : ∀ b ∈ X.fs, X.H₀ b = none
structure Inv (X : Cx) (pins : List (Addr × Obj)) (σ : List (Option V)) (H : Hp) (s : Shared) : Prop where
  ok : X.Ok
  os : s.os = X.s₀.os
  bare : AllBare s.gens
  base : Un X.fs X.ex X.H₀ H X.s₀.heap s.heap
  loc : ∃ m, s.heap.Ns X.env.locals m ∧ ∀ (i : Nat) (x : Str) (v : V), X.N[i]? = some x → σ[i]? = some (some v) → Vis X.env.scope x → ∃ u, RelV v u ∧ Look X.env s.heap m x u
  cell : ∀ x c, X.env.cells.lookup x = some c → ∃ v, s.heap.IsCell c v
  free : H X.env.locals = none
  freeC : ∀ x c, X.env.cells.lookup x = some c → H c = none
  pin : ∀ p ∈ X.pn ++ pins, s.heap.get? p.1 = some p.2 ∧ H p.1 = none ∧ p.1 ≠ X.env.locals ∧ p.1 ∉ X.fs ∧ ∀ v, p.2.data ≠ .cell v
  hok : HOk X.prog X.w H s.heap
  len : σ.length = X.N.length
section
variable {X : Cx} {pins : List (Addr × Obj)} {σ : List (Option V)} {H H' : Hp} {s : Shared} {h' : Heap}
theorem Cx.Ok.nofr (ok : X.Ok) {b : Addr} {o : Obj} (e : X.base.get? b = some o) : b ∉ X.fs := fun hb => by
  have := (ok.funs.mem hb).1
  rw [e] at this; cases this
theorem Inv.bs (I : Inv X pins σ H s) : ∀ b o, X.base.get? b = some o → s.heap.get? b = some o ∧ H b = none := fun b o e =>
  ⟨I.base.keep b o (I.ok.bs b o e).1 (I.ok.bs b o e).2 (I.ok.nofr e) (I.ok.noex b o e), I.base.free b o (I.ok.bs b o e).1 (I.ok.bs b o e).2 (I.ok.noex b o e)⟩
theorem Inv.bk (I : Inv X pins σ H s) : ∀ b o, X.base.get? b = some o → s.heap.get? b = some o := fun b o e => (I.bs b o e).1
theorem Inv.mod (I : Inv X pins σ H s) : Mod X.K X.mg X.base := I.ok.mod
theorem Inv.kIn (I : Inv X pins σ H s) : X.K.In s.heap := I.ok.mod.kin.keeps I.bk
theorem Inv.nolimit (I : Inv X pins σ H s) : s.heap.NoLimit := I.ok.mod.nolimit.keeps I.bk
theorem Inv.fr (I : Inv X pins σ H s) : ∃ m, Fr X.base X.env.locals s.heap m :=
  let ⟨m, hn, _⟩ := I.loc
  ⟨m, hn, I.bk, Nat.le_trans I.ok.bsz I.ok.above⟩
theorem Inv.lt (I : Inv X pins σ H s) : X.env.locals < s.heap.objs.size := let ⟨_, hn, _⟩ := I.loc; hn.lt
theorem Inv.sz (I : Inv X pins σ H s) : X.s₀.heap.objs.size ≤ s.heap.objs.size := Nat.le_trans I.ok.above (Nat.le_of_lt I.lt)
theorem Inv.nofs (I : Inv X pins σ H s) {a : Addr} (h : s.heap.objs.size ≤ a) : a ∉ X.fs := fun hb => by
  obtain ⟨_, o, ho, _⟩ := I.ok.funs.mem hb
  exact absurd (Nat.lt_of_lt_of_le (Heap.lt_size ho) (Nat.le_trans I.sz h)) (Nat.lt_irrefl _)
theorem Inv.cne (I : Inv X pins σ H s) : ∀ x c, X.env.cells.lookup x = some c → c ≠ X.env.locals := fun x c e z => by
  obtain ⟨v, o, ho, hd⟩ := I.cell x c e
  obtain ⟨m, ⟨o', es, ep, ho', hd', _⟩, _⟩ := I.loc
  rw [z, ho'] at ho; cases ho; rw [hd'] at hd; cases hd
theorem Inv.funs (I : Inv X pins σ H s) : s.heap.FunFrames X.base X.outer := by
  have all : ∀ (l : List Env), (∀ b ∈ frs l, b ∈ X.fs) → X.s₀.heap.FunFrames X.base l → s.heap.FunFrames X.base l := by
    intro l
    induction l with
    | nil => intro _ _; trivial
    | cons env r ih =>
      intro hs hl
      obtain ⟨hk, ⟨L, o, hf, hn, ho, hd⟩, hr⟩ := hl
      have hL : L ∈ X.fs := hs L (by unfold frs; rw [List.filterMap_cons, hf]; exact List.mem_cons_self)
      obtain ⟨sl, e⟩ := I.base.slot L o ho (I.ok.frf L hL) hL fun z => I.ok.exfs L z hL
      exact ⟨hk, ⟨L, _, hf, hn, e, hd⟩, ih (fun b hb => hs b (by unfold frs; rw [List.filterMap_cons, hf]; exact List.mem_cons_of_mem _ hb)) hr⟩
  exact all X.outer (fun _ hb => hb) I.ok.funs
theorem Inv.stack (I : Inv X pins σ H s) : s.heap.FunFrames X.base X.stack := by
  rcases I.ok.stk with e | ⟨e, hf⟩
  · rw [e]; exact I.funs
  · rw [e]
    obtain ⟨m, hn, _⟩ := I.loc
    refine .cons (by rw [I.ok.kind]; decide) hf hn ?_ I.funs
    exact Heap.get?_none_of_le (Nat.le_trans I.ok.bsz I.ok.above)
theorem Inv.stkSub (I : Inv X pins σ H s) : ∀ b ∈ frs X.stack, b ∈ X.env.locals :: X.fs := fun b hb => by
  rcases I.ok.stk with e | ⟨e, hf⟩
  · rw [e] at hb; exact List.mem_cons_of_mem _ hb
  · rw [e] at hb
    unfold frs at hb
    rw [List.filterMap_cons, hf] at hb
    exact hb
theorem Inv.stkFree (I : Inv X pins σ H s) : ∀ b ∈ frs X.stack, H b = none := fun b hb => by
  rcases List.mem_cons.mp (I.stkSub b hb) with e | hb
  · rw [e]; exact I.free
  · obtain ⟨_, o, ho, _⟩ := I.ok.funs.mem hb
    exact I.base.free b o ho (I.ok.frf b hb) fun z => I.ok.exfs b z hb
theorem Inv.step {g' : Array GenState} {t' : Nat} {d' : Drawn} {ch : List Addr} (I : Inv X pins σ H s)
    (hch : ∀ b ∈ ch, (b ∈ X.ex ∨ X.s₀.heap.objs.size ≤ b) ∧ b ≠ X.env.locals ∧ (∀ x c, X.env.cells.lookup x = some c → c ≠ b) ∧ ∀ p ∈ X.pn ++ pins, p.1 ≠ b)
    (keep : ∀ b o, b ≠ X.env.locals → b ∉ X.fs → b ∉ ch → s.heap.get? b = some o → H b = none → h'.get? b = some o)
    (slot : ∀ b o, b ≠ X.env.locals → b ∈ X.fs → b ∉ ch → s.heap.get? b = some o → H b = none → ∃ sl, h'.get? b = some { o with slots := sl }) (free : ∀ b o, b ∉ ch → s.heap.get? b = some o → H b = none → H' b = none)
    (there : ∀ b o, b ∉ ch → s.heap.get? b = some o → ∃ o', h'.get? b = some o')
    (tups : ∀ b xs, H b = some (.tup xs) → H' b = some (.tup xs)) (frzs : ∀ b o u, H b = some (.frz o u) → H' b = some (.frz o u)) (tbls : ∀ b ps, H b = some (.tbl ps) → ∃ more, H' b = some (.tbl (ps ++ more)))
    (ns : ∀ m, s.heap.Ns X.env.locals m → h'.Ns X.env.locals m) (hok : HOk X.prog X.w H' h') (hg : AllBare g') :
    Inv X pins σ H' { s with heap := h', gens := g', drawn := d', toks := t' } := by
  have neL : ∀ b o, X.s₀.heap.get? b = some o → b ≠ X.env.locals := fun b o e => Nat.ne_of_lt (Nat.lt_of_lt_of_le (Heap.lt_size e) I.ok.above)
  have neC : ∀ b o, X.s₀.heap.get? b = some o → b ∉ X.ex → b ∉ ch := fun b o e hx hb => by
    rcases (hch b hb).1 with z | z
    · exact hx z
    · exact absurd (Nat.lt_of_lt_of_le (Heap.lt_size e) z) (Nat.lt_irrefl _)
  have cellK : ∀ x c, X.env.cells.lookup x = some c → ∀ v, s.heap.IsCell c v → h'.IsCell c v := fun x c e v ⟨o, ho, hd⟩ => by
    have nch : c ∉ ch := fun z => (hch c z).2.2.1 x c e rfl
    by_cases hc : c ∈ X.fs
    · obtain ⟨sl, q⟩ := slot c o (I.cne x c e) hc nch ho (I.freeC x c e)
      exact ⟨_, q, hd⟩
    · exact ⟨o, keep c o (I.cne x c e) hc nch ho (I.freeC x c e), hd⟩
  refine ⟨I.ok, I.os, hg, ⟨fun b o e n hb hx => ?_, fun b o e n hb hx => ?_, fun b o e n hx => ?_, fun b o e hx => ?_, fun b xs e => tups b xs (I.base.tups b xs e), fun b o xs e => frzs b o xs (I.base.frzs b o xs e), fun b ps e => ?_⟩, ?_, fun x c e => ?_, ?_, fun x c e => ?_, fun p hp => ?_, hok, I.len⟩
  · exact keep b o (neL b o e) hb (neC b o e hx) (I.base.keep b o e n hb hx) (I.base.free b o e n hx)
  · obtain ⟨sl, e1⟩ := I.base.slot b o e n hb hx
    obtain ⟨sl', e2⟩ := slot b _ (neL b o e) hb (neC b o e hx) e1 (I.base.free b o e n hx)
    exact ⟨sl', e2⟩
  · obtain ⟨o', e1⟩ := I.base.there b o e hx
    exact free b o' (neC b o e hx) e1 (I.base.free b o e n hx)
  · obtain ⟨o', e1⟩ := I.base.there b o e hx
    exact there b o' (neC b o e hx) e1
  · obtain ⟨m1, e1⟩ := I.base.tbls b ps e
    obtain ⟨m2, e2⟩ := tbls b _ e1
    exact ⟨m1 ++ m2, by rw [e2, Array.append_assoc]⟩
  · obtain ⟨m, hn, hl⟩ := I.loc
    refine ⟨m, ns m hn, fun i x v e1 e2 e3 => ?_⟩
    obtain ⟨u, r, l⟩ := hl i x v e1 e2 e3
    refine ⟨u, r, ?_⟩
    rcases l with l | ⟨k, c, e, z⟩
    · exact .inl l
    · exact .inr ⟨k, c, e, cellK x c e _ z⟩
  · obtain ⟨v, z⟩ := I.cell x c e
    exact ⟨v, cellK x c e v z⟩
  · obtain ⟨m, ⟨o, _, _, ho, _⟩, _⟩ := I.loc
    exact free _ o (fun z => (hch _ z).2.1 rfl) ho I.free
  · obtain ⟨v, o, ho, hd⟩ := I.cell x c e
    exact free c o (fun z => (hch c z).2.2.1 x c e rfl) ho (I.freeC x c e)
  · obtain ⟨e, n, ne, nf, d⟩ := I.pin p hp
    have nch : p.1 ∉ ch := fun z => (hch p.1 z).2.2.2 p hp rfl
    exact ⟨keep p.1 p.2 ne nf nch e n, free p.1 p.2 nch e n, ne, nf, d⟩
theorem Inv.un {t' : Nat} (I : Inv X pins σ H s) (u : Un X.fs [] H H' s.heap h') (hok : HOk X.prog X.w H' h') : Inv X pins σ H' { s with heap := h', toks := t' } := by
  obtain ⟨m, ⟨o, es, ep, ho, r⟩, _⟩ := id I.loc
  obtain ⟨sl, hL⟩ := u.any ho I.free (by simp)
  exact I.step (g' := s.gens) (d' := s.drawn) (ch := []) (fun _ z => nomatch z) (fun b o _ hb _ e n => u.keep b o e n hb (by simp)) (fun b o _ hb _ e n => u.slot b o e n hb (by simp)) (fun b o _ e n => u.free b o e n (by simp)) (fun b o _ e => u.there b o e (by simp)) u.tups u.frzs u.tbls (fun m' hm => by
    obtain ⟨o', es', ep', ho', r'⟩ := hm
    rw [ho] at ho'; cases ho'
    exact ⟨_, es', ep', hL, r'⟩) hok I.bare
theorem Inv.call {g' : Array GenState} {t' : Nat} {d' : Drawn} {ch : List Addr} (I : Inv X pins σ H s) (u : Un (frs X.stack) ch H H' s.heap h') (hok : HOk X.prog X.w H' h') (hg : AllBare g')
    (hch : ∀ b ∈ ch, (b ∈ X.ex ∨ X.s₀.heap.objs.size ≤ b) ∧ b ≠ X.env.locals ∧ (∀ x c, X.env.cells.lookup x = some c → c ≠ b) ∧ ∀ p ∈ X.pn ++ pins, p.1 ≠ b) :
    Inv X pins σ H' { s with heap := h', gens := g', drawn := d', toks := t' } := by
  obtain ⟨m, ⟨o, es, ep, ho, r⟩, _⟩ := id I.loc
  obtain ⟨sl, hL⟩ := u.any ho I.free fun z => (hch _ z).2.1 rfl
  exact I.step (ch := ch) hch (fun b o hL hb hc e n => u.keep b o e n (fun z => (List.mem_cons.mp (I.stkSub b z)).elim hL hb) hc) (fun b o _ _ hc e n => u.any e n hc) (fun b o hc e n => u.free b o e n hc) (fun b o hc e => u.there b o e hc) u.tups u.frzs u.tbls (fun m' hm => by
    obtain ⟨o', es', ep', ho', r'⟩ := hm
    rw [ho] at ho'; cases ho'
    exact ⟨_, es', ep', hL, r'⟩) hok hg
theorem Inv.turned {t' : Nat} {it : Addr} (I : Inv X pins σ H s) (k : ∀ b o, b ≠ it → s.heap.get? b = some o → h'.get? b = some o) (hn : H it = none) (hL : it ≠ X.env.locals)
    (h1 : it ∈ X.ex ∨ X.s₀.heap.objs.size ≤ it) (h2 : ∀ x c, X.env.cells.lookup x = some c → c ≠ it) (h3 : ∀ p ∈ X.pn ++ pins, p.1 ≠ it) : Inv X pins σ H { s with heap := h', toks := t' } := by
  have nit : ∀ b u, H b = some u → b ≠ it := fun b u e z => by rw [z, hn] at e; cases e
  refine I.step (g' := s.gens) (d' := s.drawn) (ch := [it]) (fun b hb => ?_) (fun b o _ _ hc e _ => k b o (fun z => hc (by simp [z])) e) (fun b o _ _ hc e _ => ⟨o.slots, k b o (fun z => hc (by simp [z])) e⟩) (fun _ _ _ _ n => n)
    (fun b o hc e => ⟨o, k b o (fun z => hc (by simp [z])) e⟩) (fun _ _ e => e) (fun _ _ _ e => e) (fun b ps e => ⟨#[], by rw [e]; simp⟩) (fun m hm => ?_) (fun b u e => ?_) I.bare
  · have e : b = it := by simpa using hb
    subst e
    exact ⟨h1, hL, h2, h3⟩
  · obtain ⟨o, es, ep, ho, r⟩ := hm
    exact ⟨o, es, ep, k _ o (Ne.symm hL) ho, r⟩
  · refine (I.hok b u e).stay (fun c v hc q => k c v ?_ q) (fun _ q => q) fun _ _ q => q
    rcases hc with z | z
    · rw [z]; exact nit b u e
    · exact nit c _ z
theorem Inv.tok (I : Inv X pins σ H s) (t : Nat) : Inv X pins σ H { s with toks := t } := I.un (h' := s.heap) (t' := t) Un.refl I.hok
theorem Inv.kept {t' : Nat} (I : Inv X pins σ H s) (k : ∀ b u, s.heap.get? b = some u → h'.get? b = some u) : Inv X pins σ H { s with heap := h', toks := t' } := I.un (Un.kept k) (I.hok.kept k)
theorem Inv.laid {a : Addr} {o : HO} {t' : Nat} (I : Inv X pins σ H s) (k : ∀ b u, s.heap.get? b = some u → h'.get? b = some u) (hp : s.heap.objs.size ≤ a) (new : ObjOk X.prog X.w (upd H a o) h' a o) :
    Inv X pins σ (upd H a o) { s with heap := h', toks := t' } := I.un (Un.laid k hp (I.hok.fresh hp)) (I.hok.laid k hp new)
theorem Inv.write {x e : Addr} {o : HO} {t' : Nat} (I : Inv X pins σ H s) (mu : Mut (H x)) (he : e = x ∨ H e = some (.own x)) (k : ∀ b u, b ≠ e → s.heap.get? b = some u → h'.get? b = some u) (heo : ∃ u, h'.get? e = some u)
    (new : ObjOk X.prog X.w (upd H x o) h' x o) : Inv X pins σ (upd H x o) { s with heap := h', toks := t' } := I.un (Un.write mu he k heo) (I.hok.write mu he k heo new)
theorem Inv.weak {σ' : List (Option V)} (I : Inv X pins σ H s) (hl : σ'.length = σ.length) (w : ∀ (i : Nat) v, σ'[i]? = some (some v) → σ[i]? = some (some v)) : Inv X pins σ' H s :=
  ⟨I.ok, I.os, I.bare, I.base, let ⟨m, hn, hl'⟩ := I.loc; ⟨m, hn, fun i x v e1 e2 e3 => hl' i x v e1 (w i v e2) e3⟩, I.cell, I.free, I.freeC, I.pin, I.hok, hl.trans I.len⟩
theorem Inv.pins_of {pins' : List (Addr × Obj)} (I : Inv X pins σ H s) (h : ∀ p ∈ pins', s.heap.get? p.1 = some p.2 ∧ H p.1 = none ∧ p.1 ≠ X.env.locals ∧ p.1 ∉ X.fs ∧ ∀ v, p.2.data ≠ .cell v) : Inv X pins' σ H s :=
  ⟨I.ok, I.os, I.bare, I.base, I.loc, I.cell, I.free, I.freeC, fun p hp => (List.mem_append.mp hp).elim (fun z => I.pin p (List.mem_append_left _ z)) (h p), I.hok, I.len⟩
theorem nodup_ix {N : List Str} (hN : N.Nodup) {i j : Nat} {x : Str} (a : N[i]? = some x) (b : N[j]? = some x) : i = j := by
  obtain ⟨h1, e1⟩ := List.getElem?_eq_some_iff.mp a
  obtain ⟨h2, e2⟩ := List.getElem?_eq_some_iff.mp b
  exact (List.getElem_inj hN).mp (e1.trans e2.symm)
theorem store_ok2 {M : Model} {A : Around} {E : Value → Shared → Prop} {i : Nat} {x : Str} {v : V} {u : Value} {Q : Unit → Shared → Prop} (I : Inv X pins σ H s) (hN : X.N.Nodup) (hi : X.N[i]? = some x) (hx : Loc X.env.scope x) (r : RelV v u)
    (h : ∀ s', Inv X pins (σ.set i (some v)) H s' → (∃ a, Heap.SameBut a s.heap s'.heap ∧ (a = X.env.locals ∨ X.env.cells.lookup x = some a)) → Q () s') (hf : X.fn x = true ∨ X.env.scope.names.lookup x = some .local := by first | exact .inl rfl | exact .inr rfl | assumption) : wpAny M A (storeName X.env x u) Q E s := by
  obtain ⟨m, hn, hl⟩ := id I.loc
  have hcls : (X.env.scope.kind == .class || (X.env.scope.kind == .module && X.env.locals != X.env.globals)) = false := by rw [I.ok.kind]; rfl
  have hiσ : i < σ.length := by rw [I.len]; exact (List.getElem?_eq_some_iff.mp hi).1
  have cne := I.cne
  have tracked : ∀ {a : Addr} {h' : Heap}, (∃ o, s.heap.get? a = some o ∧ H a = none) → Heap.SameBut a s.heap h' → HOk X.prog X.w H h' := fun {a h'} ha hs b ob e => by
    obtain ⟨_, _, hfree⟩ := ha
    refine (I.hok b ob e).stay (fun c w' hc q => (hs.2 c ?_).trans q) (fun _ q => q) fun _ _ q => q
    rintro rfl
    rcases hc with rfl | hc
    · rw [hfree] at e; cases e
    · rw [hfree] at hc; cases hc
  rcases hx with hk | hk
  · refine wpAny_storeName_local hk hn (fun h' hn' hs => ?_) hcls
    obtain ⟨oL, _, _, hoL, _⟩ := id hn
    refine h _ ⟨I.ok, I.os, I.bare, ⟨fun b o e n hb hx => ?_, fun b o e n hb hx => ?_, I.base.free, fun b o e hx => ?_, I.base.tups, I.base.frzs, I.base.tbls⟩, ⟨_, hn', fun j y v' e1 e2 e3 => ?_⟩, fun y c e => ?_, I.free, I.freeC, fun p hp => ?_, tracked ⟨oL, hoL, I.free⟩ hs, by simpa using I.len⟩ ⟨_, hs, .inl rfl⟩
    · exact (hs.2 b (Nat.ne_of_lt (Nat.lt_of_lt_of_le (Heap.lt_size e) I.ok.above))).trans (I.base.keep b o e n hb hx)
    · obtain ⟨sl, e1⟩ := I.base.slot b o e n hb hx
      exact ⟨sl, (hs.2 b (Nat.ne_of_lt (Nat.lt_of_lt_of_le (Heap.lt_size e) I.ok.above))).trans e1⟩
    · obtain ⟨o', e1⟩ := I.base.there b o e hx
      exact ⟨o', (hs.2 b (Nat.ne_of_lt (Nat.lt_of_lt_of_le (Heap.lt_size e) I.ok.above))).trans e1⟩
    · by_cases hj : j = i
      · subst hj
        rw [hi] at e1; cases e1
        rw [List.getElem?_set_self hiσ] at e2
        cases e2
        exact ⟨u, r, .inl ⟨hk, by simp⟩⟩
      · rw [List.getElem?_set_ne (Ne.symm hj)] at e2
        obtain ⟨u', r', q⟩ := hl j y v' e1 e2 e3
        refine ⟨u', r', ?_⟩
        rcases q with ⟨k, e⟩ | ⟨k, c, e, z⟩
        · refine .inl ⟨k, ?_⟩
          have : y ≠ x := fun e => hj (nodup_ix hN e1 (e ▸ hi))
          simp [this, e]
        · exact .inr ⟨k, c, e, z.sameBut hs (cne y c e)⟩
    · obtain ⟨w', z⟩ := I.cell y c e
      exact ⟨w', z.sameBut hs (cne y c e)⟩
    · obtain ⟨e, n, ne, nf, d⟩ := I.pin p hp
      exact ⟨(hs.2 p.1 ne).trans e, n, ne, nf, d⟩
  · have hfn : X.fn x = true := by
      rcases hf with z | z
      · exact z
      · rw [z] at hk; cases hk
    obtain ⟨c, hc⟩ := I.ok.has x (.inl hk)
    obtain ⟨w', z⟩ := I.cell x c hc
    refine wpAny_storeName_cell I.ok.kind hk hc z (fun h' hc' hs => ?_)
    obtain ⟨oc, hoc, hocd⟩ := id z
    refine h { s with heap := h' } ⟨I.ok, I.os, I.bare, ⟨fun b o e n hb hx => ?_, fun b o e n hb hx => ?_, I.base.free, fun b o e hx => ?_, I.base.tups, I.base.frzs, I.base.tbls⟩, ⟨m, hn.sameBut hs (Ne.symm (cne x c hc)), fun j y v' e1 e2 e3 => ?_⟩, fun y c' e => ?_, I.free, I.freeC, fun p hp => ?_, tracked ⟨oc, hoc, I.freeC x c hc⟩ hs, by simpa using I.len⟩ ⟨c, hs, .inr hc⟩
    · exact (hs.2 b (Nat.ne_of_lt (Nat.lt_of_lt_of_le (Heap.lt_size e) (I.ok.cab x c hfn hc)))).trans (I.base.keep b o e n hb hx)
    · obtain ⟨sl, e1⟩ := I.base.slot b o e n hb hx
      exact ⟨sl, (hs.2 b (Nat.ne_of_lt (Nat.lt_of_lt_of_le (Heap.lt_size e) (I.ok.cab x c hfn hc)))).trans e1⟩
    · obtain ⟨o', e1⟩ := I.base.there b o e hx
      exact ⟨o', (hs.2 b (Nat.ne_of_lt (Nat.lt_of_lt_of_le (Heap.lt_size e) (I.ok.cab x c hfn hc)))).trans e1⟩
    · by_cases hj : j = i
      · subst hj
        rw [hi] at e1; cases e1
        rw [List.getElem?_set_self hiσ] at e2
        cases e2
        exact ⟨u, r, .inr ⟨.inl hk, c, hc, hc'⟩⟩
      · rw [List.getElem?_set_ne (Ne.symm hj)] at e2
        obtain ⟨u', r', q⟩ := hl j y v' e1 e2 e3
        refine ⟨u', r', ?_⟩
        rcases q with q | ⟨k, c', e, z'⟩
        · exact .inl q
        · refine .inr ⟨k, c', e, z'.sameBut hs ?_⟩
          rintro rfl
          exact hj (nodup_ix hN e1 (I.ok.inj _ _ _ e hc ▸ hi))
    · by_cases hcc : c' = c
      · subst hcc; exact ⟨_, hc'⟩
      · obtain ⟨w2, z2⟩ := I.cell y c' e
        exact ⟨w2, z2.sameBut hs hcc⟩
    · obtain ⟨e, n, ne, nf, d⟩ := I.pin p hp
      refine ⟨(hs.2 p.1 ?_).trans e, n, ne, nf, d⟩
      intro q
      rw [q, hoc] at e
      have q' : oc = p.2 := Option.some.inj e
      exact d w' (by rw [← q']; exact hocd)
theorem store_ok {M : Model} {A : Around} {E : Value → Shared → Prop} {i : Nat} {x : Str} {v : V} {u : Value} {Q : Unit → Shared → Prop} (I : Inv X pins σ H s) (hN : X.N.Nodup) (hi : X.N[i]? = some x) (hx : Loc X.env.scope x) (r : RelV v u)
    (h : ∀ s', Inv X pins (σ.set i (some v)) H s' → Q () s') (hf : X.fn x = true ∨ X.env.scope.names.lookup x = some .local := by first | exact .inl rfl | exact .inr rfl | assumption) : wpAny M A (storeName X.env x u) Q E s :=
  store_ok2 I hN hi hx r (fun s' I' _ => h s' I') hf
theorem Inv.call' {s' : Shared} {ch : List Addr} (I : Inv X pins σ H s) (ho : s'.os = s.os) (u : Un (frs X.stack) ch H H' s.heap s'.heap) (hok : HOk X.prog X.w H' s'.heap) (hg : AllBare s'.gens)
    (hch : ∀ b ∈ ch, (b ∈ X.ex ∨ X.s₀.heap.objs.size ≤ b) ∧ b ≠ X.env.locals ∧ (∀ x c, X.env.cells.lookup x = some c → c ≠ b) ∧ ∀ p ∈ X.pn ++ pins, p.1 ≠ b) : Inv X pins σ H' s' := by
  obtain ⟨h', g', d', t', o'⟩ := s'
  have e : o' = s.os := ho
  subst e
  exact I.call (g' := g') (t' := t') (d' := d') u hok hg hch
end
abbrev XK := Value → Option Addr → Hp → Prop
abbrev St := List (Option V)
abbrev VK := V → Hp → Prop
abbrev TE := St → Hp → VK → Prop
abbrev TT := St → Hp → (Bool → Hp → Prop) → Prop
abbrev TA := St → Hp → (List V → Hp → Prop) → Prop
structure Ends where
  nx : St → Hp → Prop
  rt : VK
  bk : St → Hp → Prop := fun _ _ => False
  ct : St → Hp → Prop := fun _ _ => False
abbrev TS := Ends → St → Hp → Prop
def EP (X : Cx) (pins : List (Addr × Obj)) (σ : St) (Q : VK) (u : Value) (s' : Shared) : Prop := ∃ v H', Inv X pins σ H' s' ∧ RelV v u ∧ Q v H'
def TP (X : Cx) (pins : List (Addr × Obj)) (σ : St) (Q : Bool → Hp → Prop) (b : Bool) (s' : Shared) : Prop := ∃ H', Inv X pins σ H' s' ∧ Q b H'
def AP (X : Cx) (pins : List (Addr × Obj)) (σ : St) (Q : List V → Hp → Prop) (us : List Value) (s' : Shared) : Prop := ∃ vs H', Inv X pins σ H' s' ∧ Vals vs us ∧ Q vs H'
def SP (X : Cx) (pins : List (Addr × Obj)) (D : Ends) (f : Flow) (s' : Shared) : Prop :=
  match f with
  | .next => ∃ σ' H', Inv X pins σ' H' s' ∧ D.nx σ' H'
  | .brk => ∃ σ' H', Inv X pins σ' H' s' ∧ D.bk σ' H'
  | .cont => ∃ σ' H', Inv X pins σ' H' s' ∧ D.ct σ' H'
  | .ret u => ∃ v σ' H', Inv X pins σ' H' s' ∧ RelV v u ∧ D.rt v H'
def PE (X : Cx) (e : Expr) (t : TE) : Prop :=
  ∀ (pins : List (Addr × Obj)) (s : Shared) (σ : St) (H : Hp) (Q : VK), Inv X pins σ H s → t σ H Q → wpAny (model X.prog X.w) X.A (eval e X.env) (EP X pins σ Q) X.xe s
def PT (X : Cx) (e : Expr) (t : TT) : Prop :=
  ∀ (pins : List (Addr × Obj)) (s : Shared) (σ : St) (H : Hp) (Q : Bool → Hp → Prop), Inv X pins σ H s → t σ H Q → wpAny (model X.prog X.w) X.A (isTrue e X.env (eval e X.env)) (TP X pins σ Q) X.xe s
def PW (X : Cx) (e : Expr) (t : TT) : Prop :=
  ∀ (whole : Sem Value) (pins : List (Addr × Obj)) (s : Shared) (σ : St) (H : Hp) (Q : Bool → Hp → Prop), Inv X pins σ H s → t σ H Q → wpAny (model X.prog X.w) X.A (isTrue e X.env whole) (TP X pins σ Q) X.xe s
theorem PW.pt {X : Cx} {e : Expr} {t : TT} (h : PW X e t) : PT X e t := h _
def PA (X : Cx) (es : List Expr) (t : TA) : Prop :=
  ∀ (pos : Pos) (pins : List (Addr × Obj)) (s : Shared) (σ : St) (H : Hp) (Q : List V → Hp → Prop), Inv X pins σ H s → t σ H Q → wpAny (model X.prog X.w) X.A (spliced (backTo pos (starEach es X.env))) (AP X pins σ Q) X.xe s
def PS (X : Cx) (st : Stmt) (t : TS) : Prop :=
  ∀ (pins : List (Addr × Obj)) (s : Shared) (σ : St) (H : Hp) (D : Ends), Inv X pins σ H s → t D σ H → wpAny (model X.prog X.w) X.A (exec st X.env) (SP X pins D) X.xe s
def PSs (X : Cx) (st : List Stmt) (t : TS) : Prop :=
  ∀ (pins : List (Addr × Obj)) (s : Shared) (σ : St) (H : Hp) (D : Ends), Inv X pins σ H s → t D σ H → wpAny (model X.prog X.w) X.A (execs st X.env) (SP X pins D) X.xe s
theorem thn {α : Type} {t : Sem α} {Q Q' : α → Shared → Prop} {M : Model} {A : Around} {E : Value → Shared → Prop} {s : Shared} (h : wpAny M A t Q E s) (hQ : ∀ a s, Q a s → Q' a s) : wpAny M A t Q' E s := wpAny_mono h hQ fun _ _ x => x
end L2
namespace L2
open PySem PySem.Spec PyProof.Rows
section
variable {X : Cx}
theorem bin {a b : Expr} {ta tb : TE} (ha : PE X a ta) (hb : PE X b tb) {pins : List (Addr × Obj)} {s : Shared} {σ : St} {H : Hp} {R : V → V → Hp → Prop} (I : Inv X pins σ H s) (h : ta σ H fun x H1 => tb σ H1 fun y H2 => R x y H2)
    {α : Type} {Q : α → Shared → Prop} {f : Value → Value → Sem α}
    (hf : ∀ v u s2 x y H2, Inv X pins σ H2 s2 → RelV x v → RelV y u → R x y H2 → wpAny (model X.prog X.w) X.A (f v u) Q X.xe s2) :
    wpAny (model X.prog X.w) X.A (eval a X.env) (fun v s₁ => wpAny (model X.prog X.w) X.A (eval b X.env) (fun u s₂ => wpAny (model X.prog X.w) X.A (f v u) Q X.xe s₂) X.xe s₁) X.xe s := by
  refine thn (ha pins s σ H _ I h) fun v s1 ⟨x, H1, I1, r1, q1⟩ => ?_
  refine thn (hb pins s1 σ H1 _ I1 q1) fun u s2 ⟨y, H2, I2, r2, q2⟩ => ?_
  exact hf v u s2 x y H2 I2 r1 r2 q2
def tVar (i : Nat) : TE := fun σ H Q => ∃ v, σ[i]? = some (some v) ∧ Q v H
def tC (v : V) : TE := fun _ H Q => Q v H
theorem pe_var {i : Nat} {x : Str} {pos : Pos} (hN : X.N[i]? = some x) (hv : Vis X.env.scope x) (hd : (x == ("__debug__" : Str)) = false := by decide) (hcd : (x == ("__classdict__" : Str)) = false := by decide) : PE X (.Name x pos) (tVar i) := by
  intro pins s σ H Q I h
  obtain ⟨v, e, h⟩ := h
  obtain ⟨m, hn, hl⟩ := I.loc
  obtain ⟨u, r, l⟩ := hl i x v hN e hv
  have fin : EP X pins σ Q u s := ⟨v, H, I, r, h⟩
  rcases l with ⟨hk, hm⟩ | ⟨hk, c, hc, hcell⟩
  · exact wpAny_Name (wpAny_loadName_local I.ok.kind hk hn hm fin) hd
  · rcases hk with hk | hk
    · exact wpAny_Name (wpAny_loadName_cell I.ok.kind hk hc hcell fin) hd
    · exact wpAny_Name (wpAny_loadName_free I.ok.kind hk hc hcell fin hcd) hd
theorem pe_int {i j pos} : PE X (.Constant (.int i) j pos) (tC (.int i)) := fun _ _ _ H _ I h => wpAny_Constant_int ⟨.int i, H, I.tok _, ⟨_, rfl⟩, h⟩
theorem pe_bl {b j pos} : PE X (.Constant (.bool b) j pos) (tC (.bl b)) := fun _ _ _ H _ I h => Constant_bool ⟨.bl b, H, I, rfl, h⟩
theorem pe_non {j pos} : PE X (.Constant .none j pos) (tC .non) := fun _ _ _ H _ I h => Constant_none ⟨.non, H, I, rfl, h⟩
theorem pe_str {x j pos} : PE X (.Constant (.str x) j pos) (tC (.str x)) := fun _ _ _ H _ I h => Calls.Constant_str ⟨.str x, H, I.tok _, ⟨_, rfl⟩, h⟩
def Gl (X : Cx) (x : Str) : Prop := X.env.kindOf x = some .globalImplicit
theorem ld_glob {E : Value → Shared → Prop} {pins : List (Addr × Obj)} {s : Shared} {σ : St} {H : Hp} {x : Str} {u : Value} {pos : Pos} {Q : Value → Shared → Prop} (I : Inv X pins σ H s) (hg : Gl X x) (hm : X.mg x = some u) (h : Q u s)
    (hd : (x == ("__debug__" : Str)) = false := by decide) : wpAny (model X.prog X.w) X.A (eval (.Name x pos) X.env) Q E s :=
  Calls.Name_function_global I.ok.kind hg (Calls.loadGlobal_global (by rw [I.ok.glob]; exact I.mod.glob.keeps I.bk) hm h) hd
theorem ld_blt {E : Value → Shared → Prop} {pins : List (Addr × Obj)} {s : Shared} {σ : St} {H : Hp} {x : Str} {u : Value} {pos : Pos} {Q : Value → Shared → Prop} (I : Inv X pins σ H s) (hg : Gl X x) (hm : X.mg x = none) (hv : bootBuiltins x = some u) (h : Q u s)
    (hn : x ≠ "__name__" := by decide) (hd : (x == ("__debug__" : Str)) = false := by decide) : wpAny (model X.prog X.w) X.A (eval (.Name x pos) X.env) Q E s := by
  obtain ⟨mb, h1, h2⟩ := I.mod.blt
  exact Calls.Name_function_global I.ok.kind hg (Calls.loadGlobal_builtin (by rw [I.ok.glob]; exact I.mod.glob.keeps I.bk) hm (by rw [I.ok.blt]; exact h1.keeps I.bk) ((h2 x hn).trans hv) h) hd
theorem pe_glob {x : Str} {v : V} {u : Value} {pos : Pos} (hg : Gl X x) (hm : X.mg x = some u) (r : RelV v u) (hd : (x == ("__debug__" : Str)) = false := by decide) : PE X (.Name x pos) (tC v) :=
  fun _ _ _ H _ I h => ld_glob I hg hm ⟨v, H, I, r, h⟩ hd
theorem pe_bltn {x : Str} {v : V} {u : Value} {pos : Pos} (hg : Gl X x) (hm : X.mg x = none) (hv : bootBuiltins x = some u) (r : RelV v u) (hn : x ≠ "__name__" := by decide) (hd : (x == ("__debug__" : Str)) = false := by decide) : PE X (.Name x pos) (tC v) :=
  fun _ _ _ H _ I h => ld_blt I hg hm hv ⟨v, H, I, r, h⟩ hn hd
def t2I (ta tb : TE) (k : Int → Int → Hp → Prop) : St → Hp → Prop := fun σ H => ta σ H fun x H1 => tb σ H1 fun y H2 => ∃ i j, x = .int i ∧ y = .int j ∧ k i j H2
def tAdd (ta tb : TE) : TE := fun σ H Q => t2I ta tb (fun i j H2 => Q (.int (i + j)) H2) σ H
def tSub (ta tb : TE) : TE := fun σ H Q => t2I ta tb (fun i j H2 => Q (.int (i - j)) H2) σ H
def tMul (ta tb : TE) : TE := fun σ H Q => t2I ta tb (fun i j H2 => (-(2 ^ 64) < i ∧ i < 2 ^ 64) ∧ Q (.int (i * j)) H2) σ H
variable {a b : Expr} {ta tb : TE} {pos : Pos}
theorem pe_add (ha : PE X a ta) (hb : PE X b tb) : PE X (.BinOp a .Add b pos) (tAdd ta tb) := by
  intro pins s σ H Q I h
  refine wpAny_BinOp (bin ha hb I h fun v u s2 x y H2 I2 rx ry q => ?_)
  obtain ⟨i, j, rfl, rfl, q⟩ := q
  obtain ⟨t, rfl⟩ := rx
  obtain ⟨t', rfl⟩ := ry
  exact add_int ⟨.int _, H2, I2.tok _, ⟨_, rfl⟩, q⟩
theorem pe_sub (ha : PE X a ta) (hb : PE X b tb) : PE X (.BinOp a .Sub b pos) (tSub ta tb) := by
  intro pins s σ H Q I h
  refine wpAny_BinOp (bin ha hb I h fun v u s2 x y H2 I2 rx ry q => ?_)
  obtain ⟨i, j, rfl, rfl, q⟩ := q
  obtain ⟨t, rfl⟩ := rx
  obtain ⟨t', rfl⟩ := ry
  exact sub_int ⟨.int _, H2, I2.tok _, ⟨_, rfl⟩, q⟩
theorem pe_mul (ha : PE X a ta) (hb : PE X b tb) : PE X (.BinOp a .Mult b pos) (tMul ta tb) := by
  intro pins s σ H Q I h
  refine wpAny_BinOp (bin ha hb I h fun v u s2 x y H2 I2 rx ry q => ?_)
  obtain ⟨i, j, rfl, rfl, ⟨q1, q2⟩, q⟩ := q
  obtain ⟨t, rfl⟩ := rx
  obtain ⟨t', rfl⟩ := ry
  exact mul_int ⟨.int _, H2, I2.tok _, ⟨_, rfl⟩, q⟩ (.of_left (intBits_le_64 q1 q2))
def PC (X : Cx) (op : CmpOp) (a b : Expr) (t : TE) : Prop :=
  ∀ (pins : List (Addr × Obj)) (s : Shared) (σ : St) (H : Hp) (Q : VK), Inv X pins σ H s → t σ H Q →
    wpAny (model X.prog X.w) X.A (eval a X.env) (fun v s₁ => wpAny (model X.prog X.w) X.A (eval b X.env) (fun u s₂ => wpAny (model X.prog X.w) X.A (compareOp op v u) (EP X pins σ Q) X.xe s₂) X.xe s₁) X.xe s
theorem nobehind (b : Expr) {op : CmpOp} (h : op ≠ .In) (h2 : op ≠ .NotIn) : behindInMarks op b = false := by
  have e1 : (op == CmpOp.In) = false := by cases op <;> first | rfl | exact absurd rfl h
  have e2 : (op == CmpOp.NotIn) = false := by cases op <;> first | rfl | exact absurd rfl h2
  cases b <;> simp [behindInMarks, e1, e2]
def tCmp (p : Int → Int → Bool) (ta tb : TE) : TE := fun σ H Q => t2I ta tb (fun i j H2 => Q (.bl (p i j)) H2) σ H
abbrev tLt : TE → TE → TE := tCmp fun i j => decide (i < j)
abbrev tLe : TE → TE → TE := tCmp fun i j => decide (i ≤ j)
abbrev tGt : TE → TE → TE := tCmp fun i j => decide (j < i)
abbrev tGe : TE → TE → TE := tCmp fun i j => decide (j ≤ i)
abbrev tEqI : TE → TE → TE := tCmp fun i j => decide (i = j)
abbrev tNeI : TE → TE → TE := tCmp fun i j => !decide (i = j)
theorem pc_int {op : CmpOp} {p : Int → Int → Bool} (ha : PE X a ta) (hb : PE X b tb)
    (rule : ∀ (i j : Int) (t u : Tok) (Q : Value → Shared → Prop) (s : Shared), Q (.bool (p i j)) s → wpAny (model X.prog X.w) X.A (compareOp op (.int i t) (.int j u)) Q X.xe s) : PC X op a b (tCmp p ta tb) := by
  intro pins s σ H Q I h
  refine bin ha hb I h fun v u s2 x y H2 I2 rx ry q => ?_
  obtain ⟨i, j, rfl, rfl, q⟩ := q
  obtain ⟨t, rfl⟩ := rx
  obtain ⟨t', rfl⟩ := ry
  exact rule i j t t' _ s2 ⟨.bl _, H2, I2, rfl, q⟩
theorem pc_lt (ha : PE X a ta) (hb : PE X b tb) : PC X .Lt a b (tLt ta tb) := pc_int ha hb fun _ _ _ _ _ _ h => lt_int h
theorem pc_le (ha : PE X a ta) (hb : PE X b tb) : PC X .LtE a b (tLe ta tb) := pc_int ha hb fun _ _ _ _ _ _ h => le_int h
theorem pc_gt (ha : PE X a ta) (hb : PE X b tb) : PC X .Gt a b (tGt ta tb) := pc_int ha hb fun _ _ _ _ _ _ h => gt_int h
theorem pc_ge (ha : PE X a ta) (hb : PE X b tb) : PC X .GtE a b (tGe ta tb) := pc_int ha hb fun _ _ _ _ _ _ h => ge_int h
theorem pc_eqI (ha : PE X a ta) (hb : PE X b tb) : PC X .Eq a b (tEqI ta tb) := pc_int ha hb fun _ _ _ _ _ _ h => eq_int (by rw [Bool.beq_eq_decide_eq]; exact h)
theorem pc_neI (ha : PE X a ta) (hb : PE X b tb) : PC X .NotEq a b (tNeI ta tb) := pc_int ha hb fun _ _ _ _ _ _ h => ne_int (by rw [bne, Bool.beq_eq_decide_eq]; exact h)
def tIsN (ta : TE) : TE := fun σ H Q => ta σ H fun x H1 => Q (.bl (decide (x = .non))) H1
def tNotN (ta : TE) : TE := fun σ H Q => ta σ H fun x H1 => Q (.bl (!decide (x = .non))) H1
theorem RelV.none_iff {x : V} {v : Value} (r : RelV x v) : (v == Value.none) = decide (x = .non) := by
  cases x with
  | non => cases r; rfl
  | bl _ => cases r; rfl
  | int _ => obtain ⟨t, rfl⟩ := r; rfl
  | str _ => obtain ⟨t, rfl⟩ := r; rfl
  | byt _ => obtain ⟨t, rfl⟩ := r; rfl
  | flt _ => obtain ⟨t, rfl⟩ := r; rfl
  | ref _ => cases r; rfl
  | ty _ => cases r; rfl
theorem pc_isN {j pos'} (ha : PE X a ta) : PC X .Is a (.Constant .none j pos') (tIsN ta) := by
  intro pins s σ H Q I h
  refine thn (ha pins s σ H _ I h) fun v s1 ⟨x, H1, I1, r1, q1⟩ => ?_
  exact Constant_none (is_none_gen ⟨.bl _, H1, I1, by rw [r1.none_iff]; rfl, q1⟩)
theorem pc_notN {j pos'} (ha : PE X a ta) : PC X .IsNot a (.Constant .none j pos') (tNotN ta) := by
  intro pins s σ H Q I h
  refine thn (ha pins s σ H _ I h) fun v s1 ⟨x, H1, I1, r1, q1⟩ => ?_
  exact Constant_none (isnot_none_gen ⟨.bl _, H1, I1, by rw [r1.none_iff]; rfl, q1⟩)
def tB (t : TE) : TT := fun σ H Q => t σ H fun x H1 => ∃ c, x = .bl c ∧ Q c H1
theorem pe_cmp {op : CmpOp} {t : TE} (h : PC X op a b t) (h1 : behindInMarks op b = false := by first | exact nobehind _ (by decide) (by decide) | rfl) : PE X (.Compare a [op] [b] pos) t := fun pins s σ H Q I hw => wpAny_Compare1 (h pins s σ H Q I hw) h1
theorem pt_cmp {op : CmpOp} {t : TE} (h : PC X op a b t) (h1 : behindInMarks op b = false := by first | exact nobehind _ (by decide) (by decide) | rfl) : PT X (.Compare a [op] [b] pos) (tB t) := by
  intro pins s σ H Q I hw
  refine wpAny_isTrue_Compare1 (thn (h pins s σ H _ I hw) fun v s1 h1 => thn h1 fun u s2 h2 => thn h2 fun c s3 ⟨x, H1, I1, r1, q1⟩ => ?_) h1
  obtain ⟨d, rfl, q⟩ := q1
  cases r1
  exact wpAny_truthy_bool ⟨H1, I1, q⟩
theorem pt_val {e : Expr} {t : TE} (h : PE X e t) (he : ∀ whole, isTrue e X.env whole = (do let v ← whole; standAt e.pos; holding [v] (truthy v)) := by intro _; rfl) : PT X e (tB t) := by
  intro pins s σ H Q I hw
  refine isTrue_plain (thn (h pins s σ H _ I hw) fun v s1 ⟨x, H1, I1, r1, q1⟩ => ?_) (he _)
  obtain ⟨d, rfl, q⟩ := q1
  cases r1
  exact wpAny_truthy_bool ⟨H1, I1, q⟩
variable {tA tB' : TT} {rest : List Expr}
def tAnd (t u : TT) : TT := fun σ H Q => t σ H fun c H1 => if c = true then u σ H1 Q else Q false H1
def tOr (t u : TT) : TT := fun σ H Q => t σ H fun c H1 => if c = true then Q true H1 else u σ H1 Q
def tNot (t : TT) : TT := fun σ H Q => t σ H fun c H1 => Q (!c) H1
theorem pw_and1 (ha : PT X a tA) : PW X (.BoolOp .And [a] pos) tA := by
  intro wh pins s σ H Q I h
  refine isTrue_and (thn (ha pins s σ H Q I h) fun c s1 e => ?_)
  cases c with
  | true => exact isTrue_and_nil e
  | false => exact e
theorem pw_or1 (ha : PT X a tA) : PW X (.BoolOp .Or [a] pos) tA := by
  intro wh pins s σ H Q I h
  refine isTrue_or (thn (ha pins s σ H Q I h) fun c s1 e => ?_)
  cases c with
  | false => exact isTrue_or_nil e
  | true => exact e
theorem pw_and (ha : PT X a tA) (hb : PW X (.BoolOp .And (b :: rest) pos) tB') : PW X (.BoolOp .And (a :: b :: rest) pos) (tAnd tA tB') := by
  intro wh pins s σ H Q I h
  refine isTrue_and (thn (ha pins s σ H _ I h) fun c s1 ⟨H1, I1, q1⟩ => ?_)
  cases c with
  | true => exact hb wh pins s1 σ H1 Q I1 q1
  | false => exact ⟨H1, I1, q1⟩
theorem pw_or (ha : PT X a tA) (hb : PW X (.BoolOp .Or (b :: rest) pos) tB') : PW X (.BoolOp .Or (a :: b :: rest) pos) (tOr tA tB') := by
  intro wh pins s σ H Q I h
  refine isTrue_or (thn (ha pins s σ H _ I h) fun c s1 ⟨H1, I1, q1⟩ => ?_)
  cases c with
  | true => exact ⟨H1, I1, q1⟩
  | false => exact hb wh pins s1 σ H1 Q I1 q1
theorem pt_not (ha : PT X a tA) : PT X (.UnaryOp .Not a pos) (tNot tA) := by
  intro pins s σ H Q I h
  exact isTrue_not (ha pins s σ H (fun c H1 => Q (!c) H1) I h)
def tAndV (ta tb : TE) : TE := fun σ H Q => ta σ H fun x H1 => ∃ c, x = .bl c ∧ if c = true then tb σ H1 Q else Q (.bl false) H1
def tOrV (ta tb : TE) : TE := fun σ H Q => ta σ H fun x H1 => ∃ c, x = .bl c ∧ if c = true then Q (.bl true) H1 else tb σ H1 Q
def tNotV (ta : TE) : TE := fun σ H Q => ta σ H fun x H1 => ∃ c, x = .bl c ∧ Q (.bl (!c)) H1
theorem pe_one {op} {t : TE} (h : PE X a t) : PE X (.BoolOp op [a] pos) t := fun pins s σ H Q I hw => BoolOp_one (h pins s σ H Q I hw)
theorem pe_and (ha : PE X a ta) (hb : PE X (.BoolOp .And (b :: rest) pos) tb) : PE X (.BoolOp .And (a :: b :: rest) pos) (tAndV ta tb) := by
  intro pins s σ H Q I h
  refine BoolOp_and (thn (ha pins s σ H _ I h) fun v s1 ⟨x, H1, I1, r1, q1⟩ => ?_)
  obtain ⟨c, rfl, q1⟩ := q1
  cases r1
  refine wpAny_truthy_bool ?_
  cases c with
  | true => exact hb pins s1 σ H1 Q I1 q1
  | false => exact ⟨.bl false, H1, I1, rfl, q1⟩
theorem pe_or (ha : PE X a ta) (hb : PE X (.BoolOp .Or (b :: rest) pos) tb) : PE X (.BoolOp .Or (a :: b :: rest) pos) (tOrV ta tb) := by
  intro pins s σ H Q I h
  refine BoolOp_or (thn (ha pins s σ H _ I h) fun v s1 ⟨x, H1, I1, r1, q1⟩ => ?_)
  obtain ⟨c, rfl, q1⟩ := q1
  cases r1
  refine wpAny_truthy_bool ?_
  cases c with
  | false => exact hb pins s1 σ H1 Q I1 q1
  | true => exact ⟨.bl true, H1, I1, rfl, q1⟩
theorem pe_not (ha : PE X a ta) : PE X (.UnaryOp .Not a pos) (tNotV ta) := by
  intro pins s σ H Q I h
  refine UnaryOp_ (thn (ha pins s σ H _ I h) fun v s1 ⟨x, H1, I1, r1, q1⟩ => ?_)
  obtain ⟨c, rfl, q1⟩ := q1
  cases r1
  exact not_of (wpAny_truthy_bool ⟨.bl (!c), H1, I1, rfl, q1⟩)
def tIf (t : TT) (ta tb : TE) : TE := fun σ H Q => t σ H fun c H1 => if c = true then ta σ H1 Q else tb σ H1 Q
theorem pe_ifExp {c : Expr} (hc : PT X c tA) (ha : PE X a ta) (hb : PE X b tb) : PE X (.IfExp c a b pos) (tIf tA ta tb) := by
  intro pins s σ H Q I h
  refine wpAny_IfExp (thn (hc pins s σ H _ I h) fun d s1 ⟨H1, I1, q1⟩ => ?_)
  cases d with
  | true => exact ha pins s1 σ H1 Q I1 q1
  | false => exact hb pins s1 σ H1 Q I1 q1
end
end L2
namespace L2
open PySem PySem.Spec PyProof.Rows
def SqL (K : PySem.W.Frag) (H : Hp) (a : Addr) (xs : List V) : Prop :=
  Rd H a (.lst xs) ∨
    ∃ (o : Obj) (its : Array Value) (n : Nat), K.lookup a = some o ∧ o.cls = .type "list" ∧ o.dict = none ∧ o.data = .seq its n ∧ its.size ≤ sizeLine ∧ Vals xs its.toList
def SqT (K : PySem.W.Frag) (H : Hp) (a : Addr) (xs : List V) : Prop :=
  Rd H a (.tup xs) ∨
    ∃ (o : Obj) (its : Array Value) (n : Nat), K.lookup a = some o ∧ o.cls = .type "tuple" ∧ o.data = .seq its n ∧ its.size ≤ sizeLine ∧ Vals xs its.toList
def absV : Value → Option V
  | .none => some .non
  | .bool b => some (.bl b)
  | .int i _ => some (.int i)
  | .str x _ => some (.str x)
  | .bytes b _ => some (.byt b)
  | .float b _ => some (.flt b)
  | .ref a => some (.ref a)
  | .type n => some (.ty n)
  | _ => none
theorem RelV.abs {x : V} {u : Value} (r : RelV x u) : absV u = some x := by
  cases x with
  | non => cases r; rfl
  | bl _ => cases r; rfl
  | int _ => obtain ⟨t, rfl⟩ := r; rfl
  | str _ => obtain ⟨t, rfl⟩ := r; rfl
  | byt _ => obtain ⟨t, rfl⟩ := r; rfl
  | flt _ => obtain ⟨t, rfl⟩ := r; rfl
  | ref _ => cases r; rfl
  | ty _ => cases r; rfl
theorem RelV.inj {x y : V} {u : Value} (r : RelV x u) (q : RelV y u) : x = y := Option.some.inj (r.abs.symm.trans q.abs)
theorem Vals.inj : ∀ {xs ys : List V} {us : List Value}, Vals xs us → Vals ys us → xs = ys
  | _, _, _, .nil, .nil => rfl
  | _, _, _, .cons r t, .cons r' t' => by rw [r.inj r', Vals.inj t t']
section
variable {X : Cx} {pins : List (Addr × Obj)} {σ : St} {H : Hp} {s : Shared} {a : Addr} {xs ys : List V}
theorem SqL.of {K : PySem.W.Frag} (h : H a = some (.lst xs)) : SqL K H a xs := .inl (.inl h)
theorem SqT.of {K : PySem.W.Frag} (h : H a = some (.tup xs)) : SqT K H a xs := .inl (.inl h)
theorem Inv.list (I : Inv X pins σ H s) (h : SqL X.K H a xs) : ∃ its : List Value, Vals xs its ∧ PlainL s.heap a its.toArray ∧ xs.length ≤ sizeLine := by
  rcases h with h | ⟨o, its, n, hk, hc, hd, hs, hz, r⟩
  · obtain ⟨z, its, n, r, e⟩ := h.ok I.hok
    exact ⟨its, r, ⟨_, n, e, rfl, rfl, rfl⟩, z⟩
  · refine ⟨its.toList, r, ⟨o, n, I.kIn a o hk, hc, hd, by simpa using hs⟩, ?_⟩
    have e := r.length
    simp only [Array.length_toList] at e
    omega
theorem Inv.tuple (I : Inv X pins σ H s) (h : SqT X.K H a xs) : ∃ its : List Value, Vals xs its ∧ IsTup s.heap a its.toArray ∧ xs.length ≤ sizeLine := by
  rcases h with h | ⟨o, its, n, hk, hc, hs, hz, r⟩
  · obtain ⟨z, its, r, p⟩ := h.ok I.hok
    exact ⟨its, r, p, z⟩
  · refine ⟨its.toList, r, ⟨o, I.kIn a o hk, hc, n, by simpa using hs⟩, ?_⟩
    have e := r.length
    simp only [Array.length_toList] at e
    omega
theorem Inv.list_inj (I : Inv X pins σ H s) (h : SqL X.K H a xs) (h' : SqL X.K H a ys) : xs = ys := by
  obtain ⟨its, r, ⟨o, n, e, _, _, d⟩, _⟩ := I.list h
  obtain ⟨its', r', ⟨o', n', e', _, _, d'⟩, _⟩ := I.list h'
  rw [e] at e'; cases e'
  rw [d] at d'
  injection d' with d1 _
  have : its = its' := by simpa using congrArg Array.toList d1
  subst this
  exact r.inj r'
theorem Inv.tuple_inj (I : Inv X pins σ H s) (h : SqT X.K H a xs) (h' : SqT X.K H a ys) : xs = ys := by
  obtain ⟨its, r, ⟨o, e, _, n, d⟩, _⟩ := I.tuple h
  obtain ⟨its', r', ⟨o', e', _, n', d'⟩, _⟩ := I.tuple h'
  rw [e] at e'; cases e'
  rw [d] at d'
  injection d' with d1 _
  have : its = its' := by simpa using congrArg Array.toList d1
  subst this
  exact r.inj r'
end
abbrev Cx.wish (X : Cx) (E : Value → Shared → Prop) : Cx := { X with xe := E }
abbrev Cx.nox (X : Cx) : Cx := X.wish fun _ _ => False
theorem Cx.Ok.wish {X : Cx} (ok : X.Ok) (E : Value → Shared → Prop) : (X.wish E).Ok :=
  ⟨ok.mod, ok.kind, ok.glob, ok.blt, ok.above, ok.inj, ok.has, ok.cab, ok.hd, ok.frames, ok.stk, ok.exf, ok.bs, ok.bsz, ok.noex, ok.exfs, ok.funs, ok.frf⟩
theorem Cx.Ok.unwish {X : Cx} {E : Value → Shared → Prop} (ok : (X.wish E).Ok) : X.Ok :=
  ⟨ok.mod, ok.kind, ok.glob, ok.blt, ok.above, ok.inj, ok.has, ok.cab, ok.hd, ok.frames, ok.stk, ok.exf, ok.bs, ok.bsz, ok.noex, ok.exfs, ok.funs, ok.frf⟩
section
variable {X : Cx} {pins : List (Addr × Obj)} {σ : St} {H : Hp} {s : Shared} {E : Value → Shared → Prop}
theorem Inv.wish (I : Inv X pins σ H s) (E : Value → Shared → Prop) : Inv (X.wish E) pins σ H s := ⟨I.ok.wish E, I.os, I.bare, I.base, I.loc, I.cell, I.free, I.freeC, I.pin, I.hok, I.len⟩
theorem Inv.unwish (I : Inv (X.wish E) pins σ H s) : Inv X pins σ H s := ⟨I.ok.unwish, I.os, I.bare, I.base, I.loc, I.cell, I.free, I.freeC, I.pin, I.hok, I.len⟩
theorem SP.unwish {D : Ends} {f : Flow} {s' : Shared} (h : SP (X.wish E) pins D f s') : SP X pins D f s' := by
  cases f with
  | next => obtain ⟨σ', H', I, q⟩ := h; exact ⟨σ', H', I.unwish, q⟩
  | brk => obtain ⟨σ', H', I, q⟩ := h; exact ⟨σ', H', I.unwish, q⟩
  | cont => obtain ⟨σ', H', I, q⟩ := h; exact ⟨σ', H', I.unwish, q⟩
  | ret u => obtain ⟨v, σ', H', I, r, q⟩ := h; exact ⟨v, σ', H', I.unwish, r, q⟩
theorem PE.nox {e : Expr} {t : TE} (h : PE X.nox e t) : PE X e t := fun pins s σ H Q I hw =>
  wpAny_mono (h pins s σ H Q (I.wish _) hw) (fun _ _ ⟨v, H', I', r, q⟩ => ⟨v, H', I'.unwish, r, q⟩) fun _ _ z => False.elim z
theorem PT.nox {e : Expr} {t : TT} (h : PT X.nox e t) : PT X e t := fun pins s σ H Q I hw =>
  wpAny_mono (h pins s σ H Q (I.wish _) hw) (fun _ _ ⟨H', I', q⟩ => ⟨H', I'.unwish, q⟩) fun _ _ z => False.elim z
theorem PSs.nox {st : List Stmt} {t : TS} (h : PSs X.nox st t) : PSs X st t := fun pins s σ H D I hw =>
  wpAny_mono (h pins s σ H D (I.wish _) hw) (fun _ _ q => q.unwish) fun _ _ z => False.elim z
end
section
variable {X : Cx} {st : Stmt} {rest : List Stmt} {t u : TS} {e : Expr} {te : TE} {pos : Pos}
def tNext : TS := fun D σ H => D.nx σ H
def tSeq (t u : TS) : TS := fun D σ H => t { D with nx := u D } σ H
theorem pss_nil : PSs X [] tNext := fun _ _ σ H _ I h => wpAny_execs_nil ⟨σ, H, I, h⟩
theorem pss_cons (h1 : PS X st t) (h2 : PSs X rest u) : PSs X (st :: rest) (tSeq t u) := by
  intro pins s σ H D I h
  refine wpAny_execs_cons (thn (h1 pins s σ H { D with nx := u D } I h) fun f s1 q => ?_)
  cases f with
  | next =>
    obtain ⟨σ', H', I', q⟩ := q
    exact h2 pins s1 σ' H' D I' q
  | ret v => exact q
  | brk => exact q
  | cont => exact q
theorem pss_one (h1 : PS X st t) : PSs X [st] t := by
  intro pins s σ H D I h
  refine wpAny_execs_cons (thn (h1 pins s σ H D I h) fun f s1 q => ?_)
  cases f with
  | next => exact wpAny_execs_nil q
  | ret v => exact q
  | brk => exact q
  | cont => exact q
def tBreak : TS := fun D σ H => D.bk σ H
def tCont : TS := fun D σ H => D.ct σ H
theorem ps_pass : PS X (.Pass pos) tNext := fun _ _ σ H _ I h => wpAny_Pass ⟨σ, H, I, h⟩
theorem ps_break : PS X (.Break pos) tBreak := fun _ _ σ H _ I h => wpAny_Break ⟨σ, H, I, h⟩
theorem ps_continue : PS X (.Continue pos) tCont := fun _ _ σ H _ I h => wpAny_Continue ⟨σ, H, I, h⟩
theorem Inv.quiet {pins : List (Addr × Obj)} {σ : St} {H : Hp} {s : Shared} (I : Inv X pins σ H s) : interactive X.env = false := by simp [interactive, I.ok.kind]
theorem ps_doc {x j pos pos'} : PS X (.Expr (.Constant (.str x) j pos) pos') tNext := fun _ s σ H _ I h => wpAny_Expr (Calls.Constant_str (show SP X _ _ .next { s with toks := s.toks + 1 } from ⟨σ, H, I.tok _, h⟩)) I.quiet
def tDrop (te : TE) : TS := fun D σ H => te σ H fun _ H1 => D.nx σ H1
theorem ps_expr (he : PE X e te) (hs : swapsWith e none pos.line X.env = pure false := by rfl) : PS X (.Expr e pos) (tDrop te) := by
  intro pins s σ H D I h
  exact wpAny_Expr_any (thn (he pins s σ H _ I h) fun v s1 ⟨x, H1, I1, r1, q1⟩ => ⟨σ, H1, I1, q1⟩) I.quiet hs
def tRet (te : TE) : TS := fun D σ H => te σ H D.rt
theorem ps_ret (he : PE X e te) : PS X (.Return (some e) pos) (tRet te) := by
  intro pins s σ H D I h
  exact wpAny_Return_some (thn (he pins s σ H _ I h) fun v s1 ⟨x, H1, I1, r1, q1⟩ => ⟨x, σ, H1, I1, r1, q1⟩)
def tRetN : TS := fun D _ H => D.rt .non H
theorem ps_retN : PS X (.Return none pos) tRetN := fun _ _ σ H _ I h => wpAny_Return_none ⟨.non, σ, H, I, rfl, h⟩
def tIfS (c : TT) (t u : TS) : TS := fun D σ H => c σ H fun b H1 => if b = true then t D σ H1 else u D σ H1
theorem ps_if {c : Expr} {a b : List Stmt} {tc : TT} (hc : PT X c tc) (ha : PSs X a t) (hb : PSs X b u) : PS X (.If c a b pos) (tIfS tc t u) := by
  intro pins s σ H D I h
  refine wpAny_If (thn (hc pins s σ H _ I h) fun d s1 ⟨H1, I1, q1⟩ => ?_)
  cases d with
  | true => exact ha pins s1 σ H1 D I1 q1
  | false => exact hb pins s1 σ H1 D I1 q1
def tNever : TS := fun _ _ _ => False
theorem ps_never : PS X st tNever := fun _ _ _ _ _ _ h => h.elim
theorem pss_never {sts : List Stmt} : PSs X sts tNever := fun _ _ _ _ _ _ h => h.elim
end
abbrev TG := V → St → Hp → (St → Hp → Prop) → Prop
abbrev TGs := List V → St → Hp → (St → Hp → Prop) → Prop
def PG (X : Cx) (target : Expr) (t : TG) : Prop :=
  ∀ (pins : List (Addr × Obj)) (s : Shared) (σ : St) (H : Hp) (v : V) (u : Value) (Q : St → Hp → Prop), Inv X pins σ H s → RelV v u → t v σ H Q →
    wpAny (model X.prog X.w) X.A (assign target X.env u) (fun _ s' => ∃ σ' H', Inv X pins σ' H' s' ∧ Q σ' H') X.xe s
def PGs (X : Cx) (ts : List Expr) (t : TGs) : Prop :=
  ∀ (pins : List (Addr × Obj)) (s : Shared) (σ : St) (H : Hp) (vs : List V) (us : List Value) (Q : St → Hp → Prop), Inv X pins σ H s → Vals vs us → t vs σ H Q →
    wpAny (model X.prog X.w) X.A (assignInOrder ((assignEach ts X.env).map (·.2)) us) (fun _ s' => ∃ σ' H', Inv X pins σ' H' s' ∧ Q σ' H') X.xe s
abbrev TSet := V → V → V → Hp → (Hp → Prop) → Prop
def PSet (X : Cx) (t : TSet) : Prop :=
  ∀ (pins : List (Addr × Obj)) (s : Shared) (σ : St) (H : Hp) (o i v : V) (ov iv u : Value) (Q : Hp → Prop), Inv X pins σ H s → RelV o ov → RelV i iv → RelV v u → t o i v H Q →
    wpAny (model X.prog X.w) X.A (setItem ov iv u) (fun _ s' => ∃ H', Inv X pins σ H' s' ∧ Q H') X.xe s
abbrev TIp := V → V → Hp → VK → Prop
def PIp (X : Cx) (op : Operator) (t : TIp) : Prop :=
  ∀ (pins : List (Addr × Obj)) (s : Shared) (σ : St) (H : Hp) (x y : V) (v u : Value) (Q : VK), Inv X pins σ H s → RelV x v → RelV y u → t x y H Q →
    wpAny (model X.prog X.w) X.A (inplaceOp op v u) (EP X pins σ Q) X.xe s
section
variable {X : Cx} {pos : Pos}
def gName (i : Nat) : TG := fun v σ H Q => Q (σ.set i (some v)) H
theorem pg_name {i : Nat} {x : Str} (hN : X.N.Nodup) (hi : X.N[i]? = some x) (hx : Loc X.env.scope x) (hf : X.fn x = true ∨ X.env.scope.names.lookup x = some .local := by first | exact .inl rfl | exact .inr rfl | assumption) : PG X (.Name x pos) (gName i) := by
  intro pins s σ H v u Q I r h
  exact wpAny_assign_Name (store_ok I hN hi hx r (fun s' I' => ⟨_, H, I', h⟩) hf)
def gNil : TGs := fun vs σ H Q => vs = [] ∧ Q σ H
def gCons (t : TG) (u : TGs) : TGs := fun vs σ H Q => ∃ v r, vs = v :: r ∧ t v σ H fun σ' H' => u r σ' H' Q
theorem pgs_nil : PGs X [] gNil := by
  intro pins s σ H vs us Q I r h
  obtain ⟨e, h⟩ := h
  subst e
  cases r
  exact assignInOrder_nil ⟨σ, H, I, h⟩
theorem pgs_cons {e : Expr} {es : List Expr} {t : TG} {u : TGs} (h1 : PG X e t) (h2 : PGs X es u)
    (hs : (assignEach (e :: es) X.env).map (·.2) = assign e X.env :: (assignEach es X.env).map (·.2) := by rfl) : PGs X (e :: es) (gCons t u) := by
  intro pins s σ H vs us Q I r h
  obtain ⟨v, vr, e1, h⟩ := h
  subst e1
  cases r with
  | cons r rr =>
    rw [hs]
    refine assignInOrder_cons (thn (h1 pins s σ H _ _ _ I r h) fun _ s1 ⟨σ1, H1, I1, q1⟩ => ?_)
    exact h2 pins s1 σ1 H1 _ _ Q I1 rr q1
def gTup (K : PySem.W.Frag) (n : Nat) (t : TGs) : TG := fun v σ H Q => ∃ a xs, v = .ref a ∧ SqT K H a xs ∧ xs.length = n ∧ t xs σ H Q
theorem pg_tup {es : List Expr} {k : Nat} {t : TGs} {n : Nat} (hc : X.calm = true) (h : PGs X es t)
    (hn : (assignEach es X.env).length = n := by rfl) (hst : (assignEach es X.env).findIdx? (·.1) = none := by rfl) : PG X (.Tuple es k pos) (gTup X.K n t) := by
  intro pins s σ H v u Q I r hw
  obtain ⟨a, xs, e1, hq, hl, hw⟩ := hw
  subst e1
  cases r
  obtain ⟨its, rv, ht, hz⟩ := I.tuple hq
  refine assign_Tuple_tuple (I.ok.hd hc) ht (by simp [hn, ← hl, rv.length]) hst fun h' hx => ?_
  have I1 : Inv X pins σ H { s with heap := h' } := I.kept (t' := s.toks) fun b o e => hx b o (Nat.ne_of_lt (Heap.lt_size e)) e
  exact h pins _ σ H xs _ Q I1 (by simpa using rv) hw
def gSub (to ti : TE) (t : TSet) : TG := fun v σ H Q => to σ H fun o H1 => ti σ H1 fun i H2 => t o i v H2 fun H3 => Q σ H3
theorem pg_sub {o i : Expr} {to ti : TE} {t : TSet} (ho : PE X o to) (hi : PE X i ti) (hs : PSet X t)
    (ha : ∀ v, assign (.Subscript o i pos) X.env v = (do
      let ov ← holding [v] (eval o X.env)
      let iv ← holding [v, ov] (eval i X.env)
      standAt pos
      holding [v, ov, iv] (setItem ov iv v)
      release [v, ov, iv] []) := by intro _; rfl) : PG X (.Subscript o i pos) (gSub to ti t) := by
  intro pins s σ H v u Q I r h
  rw [ha]
  refine wpAny_bind (wpAny_holding (thn (ho pins s σ H _ I h) fun ov s1 ⟨x, H1, I1, r1, q1⟩ => ?_))
  refine wpAny_bind (wpAny_holding (thn (hi pins s1 σ H1 _ I1 q1) fun iv s2 ⟨y, H2, I2, r2, q2⟩ => ?_))
  refine wpAny_bind (wpAny_standAt (wpAny_bind (wpAny_holding (thn (hs pins s2 σ H2 x y v ov iv u _ I2 r1 r2 r q2) fun _ s3 ⟨H3, I3, q3⟩ => ?_))))
  exact wpAny_release ⟨σ, H3, I3, q3⟩
def tAsg (te : TE) (g : TG) : TS := fun D σ H => te σ H fun x H1 => g x σ H1 D.nx
theorem ps_asg {tg e : Expr} {te : TE} {g : TG} (he : PE X e te) (hg : PG X tg g) (hs : swapsWithSole [tg] e pos.line X.env = pure false := by rfl) (hw : swappedStores [tg] e X.env = pure none := by rfl)
    (h1 : (assignEach [tg] X.env).map (·.2) = [assign tg X.env] := by rfl) : PS X (.Assign [tg] e pos) (tAsg te g) := by
  intro pins s σ H D I h
  refine wpAny_Assign_stores (thn (he pins s σ H _ I h) fun v s1 ⟨x, H1, I1, r1, q1⟩ => ?_) hs hw
  rw [h1]
  exact thn (hg pins s1 σ H1 x v _ I1 r1 q1) fun _ s2 q => q
theorem ps_set {i : Nat} {x : Str} {e : Expr} {te : TE} {pos' : Pos} (hN : X.N.Nodup) (hi : X.N[i]? = some x) (hx : Loc X.env.scope x) (he : PE X e te) (hs : swapsWith e (some (.Name x pos')) pos.line X.env = pure false := by rfl) (hf : X.fn x = true ∨ X.env.scope.names.lookup x = some .local := by first | exact .inl rfl | exact .inr rfl | assumption) :
    PS X (.Assign [.Name x pos'] e pos) (tAsg te (gName i)) := by
  intro pins s σ H D I h
  refine wpAny_Assign_Name (thn (he pins s σ H _ I h) fun v s1 ⟨y, H1, I1, r1, q1⟩ => ?_) hs
  exact store_ok I1 hN hi hx r1 (fun s2 I2 => ⟨_, H1, I2, q1⟩) hf
def tPar (i j : Nat) (ta : TA) : TS := fun D σ H => ta σ H fun vs H1 => ∃ v w, vs = [v, w] ∧ D.nx ((σ.set i (some v)).set j (some w)) H1
theorem ps_par {i j : Nat} {x y : Str} {a b : Expr} {ta : TA} {px py pt : Pos} {kt k2 pt2} (hc : X.calm = true) (hN : X.N.Nodup) (hi : X.N[i]? = some x) (hj : X.N[j]? = some y) (hij : i ≠ j)
    (hx : X.env.scope.names.lookup x = some .local) (hy : X.env.scope.names.lookup y = some .local) (ha : PA X [a, b] ta)
    (hw : swappedStores [.Tuple [.Name x px, .Name y py] kt pt] (.Tuple [a, b] k2 pt2) X.env = pure (some [x, y]))
    (hs : swapsWithSole [.Tuple [.Name x px, .Name y py] kt pt] (.Tuple [a, b] k2 pt2) pos.line X.env = pure false := by rfl) :
    PS X (.Assign [.Tuple [.Name x px, .Name y py] kt pt] (.Tuple [a, b] k2 pt2) pos) (tPar i j ta) := by
  intro pins s σ H D I h
  rw [exec_Assign_arm]
  refine wpAny_bind (wpAny_standAt ?_)
  rw [hs]
  refine wpAny_bind (wpAny_pure ?_)
  rw [if_neg (by decide)]
  refine wpAny_bind (Tuple_ (thn (ha _ pins s σ H _ I h) fun us s1 ⟨vs, H1, I1, r1, q1⟩ => ?_))
  obtain ⟨v, w, e1, q1⟩ := q1
  subst e1
  obtain ⟨u1, u2, rfl, rv, rw'⟩ : ∃ u1 u2, us = [u1, u2] ∧ RelV v u1 ∧ RelV w u2 := by
    cases r1 with
    | cons p q =>
      cases q with
      | cons p' q' =>
        cases q'
        exact ⟨_, _, rfl, p, p'⟩
  refine wpAny_newObj_type ?_ (by show 2 ≤ sizeLine; decide)
  have I2 : Inv X pins σ H1 { s1 with heap := s1.heap.push { cls := .type "tuple", data := .seq [u1, u2].toArray } } := I1.kept (t' := s1.toks) fun b o e => Heap.get?_push_of_some _ e
  rw [hw]
  refine wpAny_bind (wpAny_pure ?_)
  show wpAny (model X.prog X.w) X.A (do rule "assign.swapped-stores"; let items ← unpackItems (.ref s1.heap.objs.size) 2 none; assignInOrder [fun v => bindName X.env y v, fun v => bindName X.env x v] items.reverse; pure Flow.next) _ _ _
  refine wpAny_bind (wpAny_rule (wpAny_bind (unpackItems_tuple (items := #[u1, u2]) (I.ok.hd hc) (IsTup.new s1.heap _) fun h' hx' => ?_)))
  have I3 := I2.kept (h' := h') (t' := s1.toks) fun b o e => hx' b o (Nat.ne_of_lt (Heap.lt_size e)) e
  show wpAny _ _ (assignInOrder [fun v => bindName X.env y v, fun v => bindName X.env x v] [u2, u1] >>= fun _ => pure Flow.next) _ _ _
  refine wpAny_bind (assignInOrder_cons (wpAny_bindName (store_ok I3 hN hj (.inl hy) rw' (fun s2 I4 => ?_) (.inr hy))))
  refine assignInOrder_cons (wpAny_bindName (store_ok I4 hN hi (.inl hx) rv (fun s3 I5 => assignInOrder_nil (wpAny_pure ?_)) (.inr hx)))
  rw [List.set_comm _ _ (Ne.symm hij)] at I5
  exact ⟨_, H1, I5, q1⟩
def tAug (i : Nat) (te : TE) (ti : TIp) : TS := fun D σ H => ∃ x, σ[i]? = some (some x) ∧ te σ H fun y H1 => ti x y H1 fun z H2 => D.nx (σ.set i (some z)) H2
theorem ps_aug {i : Nat} {x : Str} {e : Expr} {te : TE} {op : Operator} {ti : TIp} {pos' : Pos} (hN : X.N.Nodup) (hi : X.N[i]? = some x) (hx : Loc X.env.scope x) (he : PE X e te) (ho : PIp X op ti) (hf : X.fn x = true ∨ X.env.scope.names.lookup x = some .local := by first | exact .inl rfl | exact .inr rfl | assumption) :
    PS X (.AugAssign (.Name x pos') op e pos) (tAug i te ti) := by
  intro pins s σ H D I h
  obtain ⟨v, e1, h⟩ := h
  obtain ⟨m, hn, hl⟩ := I.loc
  have vis : Vis X.env.scope x := by rcases hx with k | k; exact .inl k; exact .inr (.inl k)
  obtain ⟨u, r, l⟩ := hl i x v hi e1 vis
  refine wpAny_AugAssign_Name ?_
  have go : wpAny (model X.prog X.w) X.A (eval e X.env) (fun w s₂ => wpAny (model X.prog X.w) X.A (inplaceOp op u w) (fun r s₃ => wpAny (model X.prog X.w) X.A (storeName X.env x r) (fun _ => SP X pins D .next) X.xe s₃) X.xe s₂) X.xe s := by
    refine thn (he pins s σ H _ I h) fun w s1 ⟨y, H1, I1, r1, q1⟩ => ?_
    refine thn (ho pins s1 σ H1 v y u w _ I1 r r1 q1) fun z s2 ⟨zv, H2, I2, r2, q2⟩ => ?_
    exact store_ok I2 hN hi hx r2 (fun s3 I3 => ⟨_, H2, I3, q2⟩) hf
  rcases l with ⟨hk, hm⟩ | ⟨hk, c, hc, hcell⟩
  · exact wpAny_loadName_local I.ok.kind hk hn hm go
  · rcases hk with hk | hk
    · exact wpAny_loadName_cell I.ok.kind hk hc hcell go
    · rcases hx with k | k
      · have : X.env.scope.names.lookup x = some .free := hk
        rw [k] at this; cases this
      · have : X.env.scope.names.lookup x = some .free := hk
        rw [k] at this; cases this
def tAugS (to ti te : TE) (tget : V → V → Hp → VK → Prop) (tip : TIp) (tset : TSet) : TS := fun D σ H => to σ H fun o H1 => ti σ H1 fun i H2 => tget o i H2 fun x H3 => te σ H3 fun y H4 => tip x y H4 fun z H5 => tset o i z H5 fun H6 => D.nx σ H6
def PGet (X : Cx) (t : V → V → Hp → VK → Prop) : Prop :=
  ∀ (pins : List (Addr × Obj)) (s : Shared) (σ : St) (H : Hp) (o i : V) (ov iv : Value) (Q : VK), Inv X pins σ H s → RelV o ov → RelV i iv → t o i H Q →
    wpAny (model X.prog X.w) X.A (getItem ov iv) (EP X pins σ Q) X.xe s
theorem ps_augS {o i e : Expr} {to ti te : TE} {tget : V → V → Hp → VK → Prop} {tip : TIp} {tset : TSet} {op : Operator} {tpos : Pos} (ho : PE X o to) (hi : PE X i ti) (hg : PGet X tget) (he : PE X e te) (hp : PIp X op tip) (hs : PSet X tset)
    (ha : ∀ ov iv new, augStore i ov iv new = (do holding [new, ov, iv] (setItem ov iv new); release [new, ov, iv] []; pure .next) := by intros; rfl) : PS X (.AugAssign (.Subscript o i tpos) op e pos) (tAugS to ti te tget tip tset) := by
  intro pins s σ H D I h
  refine wpAny_AugAssign_SubscriptAny (thn (ho pins s σ H _ I h) fun ov s1 ⟨x1, H1, I1, r1, q1⟩ => ?_) ha
  refine thn (hi pins s1 σ H1 _ I1 q1) fun iv s2 ⟨x2, H2, I2, r2, q2⟩ => ?_
  refine thn (hg pins s2 σ H2 x1 x2 ov iv _ I2 r1 r2 q2) fun old s3 ⟨x3, H3, I3, r3, q3⟩ => ?_
  refine thn (he pins s3 σ H3 _ I3 q3) fun v s4 ⟨x4, H4, I4, r4, q4⟩ => ?_
  refine thn (hp pins s4 σ H4 x3 x4 old v _ I4 r3 r4 q4) fun new s5 ⟨x5, H5, I5, r5, q5⟩ => ?_
  exact thn (hs pins s5 σ H5 x1 x2 x5 ov iv new _ I5 r1 r2 r5 q5) fun _ s6 ⟨H6, I6, q6⟩ => ⟨σ, H6, I6, q6⟩
def ipI (f : Int → Int → Int) : TIp := fun x y H Q => ∃ i j, x = .int i ∧ y = .int j ∧ Q (.int (f i j)) H
theorem ip_add : PIp X .Add (ipI fun i j => i + j) := by
  intro pins s σ H x y v u Q I r1 r2 h
  obtain ⟨i, j, e1, e2, q⟩ := h
  subst e1; subst e2
  obtain ⟨t, rfl⟩ := r1
  obtain ⟨t', rfl⟩ := r2
  exact iadd_int ⟨.int _, H, I.tok _, ⟨_, rfl⟩, q⟩
theorem ip_sub : PIp X .Sub (ipI fun i j => i - j) := by
  intro pins s σ H x y v u Q I r1 r2 h
  obtain ⟨i, j, e1, e2, q⟩ := h
  subst e1; subst e2
  obtain ⟨t, rfl⟩ := r1
  obtain ⟨t', rfl⟩ := r2
  exact isub_int ⟨.int _, H, I.tok _, ⟨_, rfl⟩, q⟩
end
section
variable {X : Cx} {pos : Pos}
def tWhile (c : TT) (tb : TS) : TS := fun D σ H => ∃ W : Nat → St → Hp → Prop, (∃ m, W m σ H) ∧ ∀ m σ H, W m σ H →
  c σ H fun b H1 => if b = true then ∃ N : St → Hp → Prop, (∀ σ' H', N σ' H' → ∃ m', m' < m ∧ W m' σ' H') ∧ tb { D with nx := N, ct := N, bk := D.nx } σ H1 else D.nx σ H1
theorem ps_while {c : Expr} {body : List Stmt} {tc : TT} {tb : TS} (hp : PassesOwn (model X.prog X.w) X.A X.env X.xe) (hc : PT X c tc) (hb : PSs X body tb) : PS X (.While c body [] pos) (tWhile tc tb) := by
  intro pins s σ H D I h
  obtain ⟨W, ⟨m0, w0⟩, turn⟩ := h
  refine wpAny_While (codeAny_whileLoop (fun n s' => ∃ σ' H', Inv X pins σ' H' s' ∧ W n σ' H') ?_ m0 ⟨σ, H, I, w0⟩)
  rintro n s1 ⟨σ1, H1, I1, w1⟩
  refine wpAny_passesOwn hp (thn (hc pins s1 σ1 H1 _ I1 (turn n σ1 H1 w1)) fun b s2 ⟨H2, I2, q2⟩ => ?_)
  cases b with
  | true =>
    obtain ⟨N, hN, q2⟩ := q2
    rw [if_pos rfl]
    refine wpAny_passesOwn hp (thn (hb pins s2 σ1 H2 _ I2 q2) fun f s3 q3 => ?_)
    cases f with
    | next =>
      obtain ⟨σ3, H3, I3, n3⟩ := q3
      obtain ⟨m', hm, w3⟩ := hN σ3 H3 n3
      exact ⟨m', hm, σ3, H3, I3, w3⟩
    | cont =>
      obtain ⟨σ3, H3, I3, n3⟩ := q3
      obtain ⟨m', hm, w3⟩ := hN σ3 H3 n3
      exact ⟨m', hm, σ3, H3, I3, w3⟩
    | brk => exact q3
    | ret v => exact q3
  | false =>
    rw [if_neg Bool.false_ne_true]
    exact wpAny_execs_nil ⟨σ1, H2, I2, q2⟩
end
structure It where
  go : Nat → Hp → Prop
  yld : Nat → Hp → V → Hp → Prop
  stop : Nat → Hp → Prop
def FpOk (X : Cx) (pins : List (Addr × Obj)) (H : Hp) (b : Addr) : Prop :=
  H b = none ∧ b ≠ X.env.locals ∧ b ∉ X.fs ∧ (b ∈ X.ex ∨ X.s₀.heap.objs.size ≤ b) ∧ (∀ x c, X.env.cells.lookup x = some c → c ≠ b) ∧ ∀ p ∈ X.pn ++ pins, p.1 ≠ b
theorem Inv.fpOk {X : Cx} {pins : List (Addr × Obj)} {σ : St} {H H' : Hp} {s : Shared} {b : Addr} (I : Inv X pins σ H s) (hb : s.heap.objs.size ≤ b) (hn : H' b = none) : FpOk X pins H' b := by
  refine ⟨hn, Nat.ne_of_gt (Nat.lt_of_lt_of_le I.lt hb), I.nofs hb, .inr (Nat.le_trans I.sz hb), fun x c e z => ?_, fun p hp z => ?_⟩
  · obtain ⟨v, q⟩ := I.cell x c e
    exact absurd (Nat.lt_of_lt_of_le q.lt (by rw [z]; exact hb)) (Nat.lt_irrefl _)
  · exact absurd (Nat.lt_of_lt_of_le (Heap.lt_size (I.pin p hp).1) (by rw [z]; exact hb)) (Nat.lt_irrefl _)
structure Turn (P : Program) (w : World) (K : PySem.W.Frag) (tg : Expr) (J : It) (fp : List Addr) (it : Addr) (tn : Nat → Heap → Prop) : Prop where
  mem : it ∈ fp
  obj : ∀ i h, tn i h → ∀ b ∈ fp, ∃ o, h.get? b = some o ∧ ∀ v, o.data ≠ .cell v
  keep : ∀ i h h', tn i h → (∀ b ∈ fp, ∀ o, h.get? b = some o → h'.get? b = some o) → tn i h'
  item : ∀ (X : Cx), X.prog = P → X.w = w → X.K = K → X.calm = true → ∀ (i : Nat) (pins : List (Addr × Obj)) (s : Shared) (σ : St) (H : Hp) (E : Value → Shared → Prop), Inv X pins σ H s → (∀ b ∈ fp, FpOk X pins H b) → tn i s.heap → J.go i H →
    wpAny (model P w) X.A (pyNext (.ref it)) (fun r s1 => ∃ u, r = some u ∧
      wpAny (model P w) X.A (letOwnedTupleGo tg (.ref it) u) (fun _ s2 => ∃ x H', Inv X pins σ H' s2 ∧ RelV x u ∧ J.yld i H x H' ∧ tn (i + 1) s2.heap ∧ ∀ b ∈ fp, H' b = none) E s1) E s
  done : ∀ (X : Cx), X.prog = P → X.w = w → X.K = K → X.calm = true → ∀ (i : Nat) (pins : List (Addr × Obj)) (s : Shared) (σ : St) (H : Hp) (E : Value → Shared → Prop), Inv X pins σ H s → (∀ b ∈ fp, FpOk X pins H b) → tn i s.heap → J.stop i H →
    wpAny (model P w) X.A (pyNext (.ref it)) (fun r s1 => r = none ∧ Inv X pins σ H s1) E s
  self : ∀ (A : Around) (i : Nat) (s : Shared) (Q : Value → Shared → Prop) (E : Value → Shared → Prop), tn i s.heap → Q (.ref it) s → wpAny (model P w) A (pyIter (.ref it)) Q E s
abbrev TI := St → Hp → (It → Hp → Prop) → Prop
def PIE (X : Cx) (pins : List (Addr × Obj)) (σ : St) (tg : Expr) (R : It → Hp → Prop) (itv : Value) (s2 : Shared) : Prop :=
  ∃ (it : Addr) (fp : List Addr) (tn : Nat → Heap → Prop) (J : It) (H' : Hp), itv = .ref it ∧ Inv X pins σ H' s2 ∧ Turn X.prog X.w X.K tg J fp it tn ∧ tn 0 s2.heap ∧ (∀ b ∈ fp, FpOk X pins H' b) ∧ R J H'
def PI (X : Cx) (tg iter : Expr) (wi : TI) : Prop :=
  ∀ (pins : List (Addr × Obj)) (s : Shared) (σ : St) (H : Hp) (R : It → Hp → Prop), Inv X pins σ H s → wi σ H R →
    wpAny (model X.prog X.w) X.A (eval iter X.env) (fun v s1 => wpAny (model X.prog X.w) X.A (pyIter v) (PIE X pins σ tg R) X.xe s1) X.xe s
theorem go_of {M : Model} {A : Around} {E : Value → Shared → Prop} {s : Shared} {tg : Expr} {it : Addr} {u : Value} {o : Obj} {n : String} {vs : Array Value} {Q : Unit → Shared → Prop} (ho : s.heap.get? it = some o) (hc : o.cls = .type n) (hd : o.data = .fields vs)
    (hn : ["enumerate", "zip", "dict_itemiterator", "dict_reverseitemiterator", "odict_iterator", "itertools.zip_longest", "itertools.pairwise"].contains n = false) (hQ : Q () s) : wpAny M A (letOwnedTupleGo tg (.ref it) u) Q E s := by
  unfold letOwnedTupleGo
  cases tg <;> first
    | exact wpAny_pure hQ
    | (cases u <;> first
        | exact wpAny_pure hQ
        | (refine wpAny_bind (wpAny_load ho ?_)
           rw [hc, hd]
           show wpAny M A (if (["enumerate", "zip", "dict_itemiterator", "dict_reverseitemiterator", "odict_iterator", "itertools.zip_longest", "itertools.pairwise"].contains n && vs[0]? == some (rawInt _)) = true then _ else _) Q E s
           rw [if_neg (by intro h; rw [hn, Bool.false_and] at h; cases h)]
           exact wpAny_pure hQ))
def Itl (K : PySem.W.Frag) (a : Addr) : It :=
  ⟨fun i H => ∃ xs x, SqL K H a xs ∧ xs[i]? = some x, fun i H x H' => H' = H ∧ ∀ xs, SqL K H a xs → xs[i]? = some x, fun i H => ∃ xs, SqL K H a xs ∧ xs.length ≤ i⟩
def Itt (K : PySem.W.Frag) (a : Addr) : It :=
  ⟨fun i H => ∃ xs x, SqT K H a xs ∧ xs[i]? = some x, fun i H x H' => H' = H ∧ ∀ xs, SqT K H a xs → xs[i]? = some x, fun i H => ∃ xs, SqT K H a xs ∧ xs.length ≤ i⟩
def Itr (lo : Int) (n : Nat) : It := ⟨fun i _ => i < n, fun i H x H' => H' = H ∧ x = .int (lo + i), fun i _ => n ≤ i⟩
theorem turn_list {P : Program} {w : World} {K : PySem.W.Frag} {tg : Expr} (a it : Addr) : Turn P w K tg (Itl K a) [it] it (fun i h => h.IsListIter it a i) where
  mem := by simp
  obj := fun i h st b hb => by
    have e : b = it := by simpa using hb
    subst e
    obtain ⟨o, e, c, d⟩ := st
    exact ⟨o, e, fun v z => by rw [d] at z; cases z⟩
  keep := fun i h h' st k => st.at fun o e => k it (by simp) o e
  item := by
    intro X hP hw hK hc i pins s σ H E I hf st hg
    subst hP hw hK
    obtain ⟨xs, x, hq, hx⟩ := hg
    obtain ⟨its, rv, p, hz⟩ := I.list hq
    obtain ⟨u, hu, ru⟩ := rv.get hx
    obtain ⟨f0, f1, f2, f3, f4, f5⟩ := hf it (by simp)
    refine wpAny_pyNext_list_item st p.isList (x := u) (by simpa using hu) fun h' st' sb => ?_
    have I1 : Inv X pins σ H { s with heap := h' } := I.turned (t' := s.toks) (fun b o hb e => (sb.2 b hb).trans e) f0 f1 f3 f4 f5
    obtain ⟨o, e, c, d⟩ := id st'
    exact ⟨u, rfl, go_of (s := { s with heap := h' }) e c d (by decide) ⟨x, H, I1, ru, ⟨rfl, fun ys hy => by rw [I.list_inj hy hq]; exact hx⟩, st', fun b hb => (hf b hb).1⟩⟩
  done := by
    intro X hP hw hK hc i pins s σ H E I hf st hg
    subst hP hw hK
    obtain ⟨xs, hq, hx⟩ := hg
    obtain ⟨its, rv, p, hz⟩ := I.list hq
    obtain ⟨f0, f1, f2, f3, f4, f5⟩ := hf it (by simp)
    have hl := rv.length
    exact wpAny_pyNext_list_end (I.ok.hd hc) st p.isList (by simp; omega) fun h' eb => ⟨rfl, I.turned (t' := s.toks) (fun b o hb e => eb b o hb e) f0 f1 f3 f4 f5⟩
  self := fun _ _ _ _ _ st h => wpAny_pyIter_listiter st h
theorem turn_tuple {P : Program} {w : World} {K : PySem.W.Frag} {tg : Expr} (a it : Addr) : Turn P w K tg (Itt K a) [it] it (fun i h => h.IsTupleIter it a i) where
  mem := by simp
  obj := fun i h st b hb => by
    have e : b = it := by simpa using hb
    subst e
    obtain ⟨o, e, c, d⟩ := st
    exact ⟨o, e, fun v z => by rw [d] at z; cases z⟩
  keep := fun i h h' st k => st.at fun o e => k it (by simp) o e
  item := by
    intro X hP hw hK hc i pins s σ H E I hf st hg
    subst hP hw hK
    obtain ⟨xs, x, hq, hx⟩ := hg
    obtain ⟨its, rv, p, hz⟩ := I.tuple hq
    obtain ⟨u, hu, ru⟩ := rv.get hx
    obtain ⟨f0, f1, f2, f3, f4, f5⟩ := hf it (by simp)
    refine wpAny_pyNext_tuple_item st (show s.heap.IsTuple a its.toArray from p) (x := u) (by simpa using hu) fun h' st' sb => ?_
    have I1 : Inv X pins σ H { s with heap := h' } := I.turned (t' := s.toks) (fun b o hb e => (sb.2 b hb).trans e) f0 f1 f3 f4 f5
    obtain ⟨o, e, c, d⟩ := id st'
    exact ⟨u, rfl, go_of (s := { s with heap := h' }) e c d (by decide) ⟨x, H, I1, ru, ⟨rfl, fun ys hy => by rw [I.tuple_inj hy hq]; exact hx⟩, st', fun b hb => (hf b hb).1⟩⟩
  done := by
    intro X hP hw hK hc i pins s σ H E I hf st hg
    subst hP hw hK
    obtain ⟨xs, hq, hx⟩ := hg
    obtain ⟨its, rv, p, hz⟩ := I.tuple hq
    obtain ⟨f0, f1, f2, f3, f4, f5⟩ := hf it (by simp)
    have hl := rv.length
    exact wpAny_pyNext_tuple_end (I.ok.hd hc) st (show s.heap.IsTuple a its.toArray from p) (by simp; omega) fun h' eb => ⟨rfl, I.turned (t' := s.toks) (fun b o hb e => eb b o hb e) f0 f1 f3 f4 f5⟩
  self := fun _ _ _ _ _ st h => wpAny_pyIter_tupleiter st h
theorem turn_range {P : Program} {w : World} {K : PySem.W.Frag} {tg : Expr} (it : Addr) (lo : Int) (n : Nat) : Turn P w K tg (Itr lo n) [it] it (fun i h => IsRangeIter h it (lo + (i : Nat) * 1) ((n : Int) - (i : Nat)) 1) where
  mem := by simp
  obj := fun i h st b hb => by
    have e : b = it := by simpa using hb
    subst e
    exact ⟨_, st, fun v z => by
      have z' : Data.fields _ = Data.cell v := z
      cases z'⟩
  keep := fun i h h' st k => k it (by simp) _ st
  item := by
    intro X hP hw hK hc i pins s σ H E I hf st hg
    subst hP hw hK
    obtain ⟨f0, f1, f2, f3, f4, f5⟩ := hf it (by simp)
    have W := Walks.range (prog := X.prog) (w := X.w) (I.ok.hd hc) it lo 1 n
    refine W.item i s _ _ hg st fun v h' tk hv st' kk => ?_
    obtain ⟨t, rfl⟩ := hv
    have I1 : Inv X pins σ H { s with heap := h', toks := tk } := I.turned (fun b o hb e => kk b o (by simpa using hb) e) f0 f1 f3 f4 f5
    refine ⟨_, rfl, go_of (s := { s with heap := h', toks := tk }) (n := "range_iterator") st' rfl rfl (by decide) ⟨.int (lo + i), H, I1, ⟨t, ?_⟩, ⟨rfl, rfl⟩, st', fun b hb => (hf b hb).1⟩⟩
    rw [Int.mul_one]
  done := by
    intro X hP hw hK hc i pins s σ H E I hf st hg
    subst hP hw hK
    obtain ⟨f0, f1, f2, f3, f4, f5⟩ := hf it (by simp)
    exact wpAny_pyNext_range_end (I.ok.hd hc) st (by have : n ≤ i := hg; omega) fun h' eb => ⟨rfl, I.turned (t' := s.toks) (fun b o hb e => eb b o hb e) f0 f1 f3 f4 f5⟩
  self := fun _ _ _ _ _ st h => wpAny_pyIter_rangeiter st h
end L2
namespace L2
open PySem PySem.Spec PyProof.Rows
section
variable {X : Cx} {tg : Expr}
def iList (K : PySem.W.Frag) (tl : TE) : TI := fun σ H R => tl σ H fun x H1 => ∃ a, x = .ref a ∧ (∃ xs, SqL K H1 a xs) ∧ R (Itl K a) H1
def iTup (K : PySem.W.Frag) (tl : TE) : TI := fun σ H R => tl σ H fun x H1 => ∃ a, x = .ref a ∧ (∃ xs, SqT K H1 a xs) ∧ R (Itt K a) H1
theorem pi_list {l : Expr} {tl : TE} (hl : PE X l tl) : PI X tg l (iList X.K tl) := by
  intro pins s σ H R I h
  refine thn (hl pins s σ H _ I h) fun v s1 ⟨x, H1, I1, r1, q1⟩ => ?_
  obtain ⟨a, e, ⟨xs, hq⟩, q⟩ := q1
  subst e
  cases r1
  obtain ⟨its, rv, p, hz⟩ := I1.list hq
  refine wpAny_pyIter_list p.isList ?_
  refine ⟨s1.heap.objs.size, [s1.heap.objs.size], _, _, H1, rfl, I1.kept (t' := s1.toks) fun b o e => Heap.get?_push_of_some _ e, turn_list a _, ⟨_, Heap.get?_push_size _ rfl, rfl, rfl⟩, fun b hb => ?_, q⟩
  have e : b = s1.heap.objs.size := by simpa using hb
  subst e
  exact I1.fpOk (Nat.le_refl _) (I1.hok.fresh (Nat.le_refl _))
theorem pi_tup {l : Expr} {tl : TE} (hl : PE X l tl) : PI X tg l (iTup X.K tl) := by
  intro pins s σ H R I h
  refine thn (hl pins s σ H _ I h) fun v s1 ⟨x, H1, I1, r1, q1⟩ => ?_
  obtain ⟨a, e, ⟨xs, hq⟩, q⟩ := q1
  subst e
  cases r1
  obtain ⟨its, rv, p, hz⟩ := I1.tuple hq
  refine wpAny_pyIter_tuple (show s1.heap.IsTuple a its.toArray from p) ?_
  refine ⟨s1.heap.objs.size, [s1.heap.objs.size], _, _, H1, rfl, I1.kept (t' := s1.toks) fun b o e => Heap.get?_push_of_some _ e, turn_tuple a _, ⟨_, Heap.get?_push_size _ rfl, rfl, rfl⟩, fun b hb => ?_, q⟩
  have e : b = s1.heap.objs.size := by simpa using hb
  subst e
  exact I1.fpOk (Nat.le_refl _) (I1.hok.fresh (Nat.le_refl _))
theorem range_it {pins : List (Addr × Obj)} {σ : St} {H : Hp} {s : Shared} {R : It → Hp → Prop} {E : Value → Shared → Prop} {lo hi : Int} {t u v : Tok} {tk : Nat} (I : Inv X pins σ H s) (h1 : -(2 ^ 62) ≤ lo) (h2 : lo < 2 ^ 62) (h3 : -(2 ^ 62) ≤ hi) (h4 : hi < 2 ^ 62)
    (q : R (Itr lo (hi - lo).toNat) H) : wpAny (model X.prog X.w) X.A (pyIter (.ref s.heap.objs.size)) (PIE X pins σ tg R) E { s with heap := s.heap.push { cls := .type "range", data := .fields #[.int lo t, .int hi u, .int 1 v] }, toks := tk } := by
  refine wpAny_pyIter_range (IsRange.new ..) (small_one h1 h2 h3 h4) ?_
  have I1 : Inv X pins σ H { s with heap := s.heap.push { cls := .type "range", data := .fields #[.int lo t, .int hi u, .int 1 v] }, toks := tk } := I.kept fun b o e => Heap.get?_push_of_some _ e
  refine ⟨(s.heap.push { cls := .type "range", data := .fields #[.int lo t, .int hi u, .int 1 v] }).objs.size, [(s.heap.push { cls := .type "range", data := .fields #[.int lo t, .int hi u, .int 1 v] }).objs.size], _, _, H, rfl,
    I1.kept (t' := tk) fun b o e => Heap.get?_push_of_some _ e, turn_range _ lo (hi - lo).toNat, ?_, fun b hb => ?_, q⟩
  · have e1 : lo + ((0 : Nat) : Int) * 1 = lo := by simp
    have e2 : (((hi - lo).toNat : Nat) : Int) - ((0 : Nat) : Int) = Builtin.Range.rangeSize lo hi 1 := by rw [rangeSize_one]; split <;> omega
    show IsRangeIter _ _ (lo + ((0 : Nat) : Int) * 1) ((((hi - lo).toNat : Nat) : Int) - ((0 : Nat) : Int)) 1
    rw [e1, e2]
    exact Heap.get?_push_size _ rfl
  · have e : b = (s.heap.push { cls := .type "range", data := .fields #[.int lo t, .int hi u, .int 1 v] }).objs.size := by simpa using hb
    subst e
    exact I1.fpOk (Nat.le_refl _) (I1.hok.fresh (Nat.le_refl _))
def iRng1 (ta : TA) : TI := fun σ H R => ta σ H fun vs H1 => ∃ j : Int, vs = [.int j] ∧ -(2 ^ 62) ≤ j ∧ j < 2 ^ 62 ∧ R (Itr 0 j.toNat) H1
def iRng2 (ta : TA) : TI := fun σ H R => ta σ H fun vs H1 => ∃ i j : Int, vs = [.int i, .int j] ∧ (-(2 ^ 62) ≤ i ∧ i < 2 ^ 62 ∧ -(2 ^ 62) ≤ j ∧ j < 2 ^ 62) ∧ R (Itr i (j - i).toNat) H1
theorem pi_range1 {a : Expr} {ta : TA} {p pos : Pos} (hg : Gl X "range") (hm : X.mg "range" = none) (ha : PA X [a] ta) (hs : starEach [a] X.env = [(false, eval a X.env)] := by rfl) : PI X tg (.Call (.Name "range" p) [a] [] pos) (iRng1 ta) := by
  intro pins s σ H R I h
  refine Call_ (ld_blt I hg hm boot_range (PyProof.Rows.callWith_type1 (thn (ha pos pins s σ H _ I h) fun us s1 ⟨vs, H1, I1, r1, q1⟩ => ?_) hs rfl))
  obtain ⟨j, e, q1, q2, q⟩ := q1
  subst e
  cases r1 with
  | cons r rr =>
    cases rr
    obtain ⟨t, rfl⟩ := r
    exact call_range_1 (range_it I1 (by omega) (by omega) q1 q2 (by simpa using q))
theorem pi_range2 {a b : Expr} {ta : TA} {p pos : Pos} (hg : Gl X "range") (hm : X.mg "range" = none) (ha : PA X [a, b] ta) (hs : starEach [a, b] X.env = [(false, eval a X.env), (false, eval b X.env)] := by rfl) (hs2 : starEach [b] X.env = [(false, eval b X.env)] := by rfl) :
    PI X tg (.Call (.Name "range" p) [a, b] [] pos) (iRng2 ta) := by
  intro pins s σ H R I h
  refine Call_ (ld_blt I hg hm boot_range (PyProof.Rows.callWith_type1 (thn (ha pos pins s σ H _ I h) fun us s1 ⟨vs, H1, I1, r1, q1⟩ => ?_) (by rw [hs, hs2]) (by rw [hs2]; rfl)))
  obtain ⟨i, j, e, ⟨q1, q2, q3, q4⟩, q⟩ := q1
  subst e
  cases r1 with
  | cons r rr =>
    cases rr with
    | cons r' rr =>
      cases rr
      obtain ⟨t, rfl⟩ := r
      obtain ⟨t', rfl⟩ := r'
      exact call_range_2 (range_it I1 q1 q2 q3 q4 q)
def tFor (wi : TI) (g : TG) (tb : TS) : TS := fun D σ H => wi σ H fun J H1 => ∃ W : Nat → Nat → St → Hp → Prop, (∃ m, W 0 m σ H1) ∧ ∀ i m σ H, W i m σ H →
  (J.stop i H ∧ D.nx σ H) ∨ (J.go i H ∧ ∃ N : St → Hp → Prop, (∀ σ' H', N σ' H' → ∃ m', m' < m ∧ W (i + 1) m' σ' H') ∧ ∀ x H', J.yld i H x H' → g x σ H' fun σ2 H2 => tb { D with nx := N, ct := N, bk := D.nx } σ2 H2)
def pinsAt (fp : List Addr) (h : Heap) : List (Addr × Obj) := fp.filterMap fun b => (h.get? b).map fun o => (b, o)
theorem mem_pinsAt {fp : List Addr} {h : Heap} {b : Addr} {o : Obj} (hb : b ∈ fp) (e : h.get? b = some o) : (b, o) ∈ pinsAt fp h := List.mem_filterMap.mpr ⟨b, hb, by rw [e]; rfl⟩
theorem of_pinsAt {fp : List Addr} {h : Heap} {p : Addr × Obj} (hp : p ∈ pinsAt fp h) : p.1 ∈ fp ∧ h.get? p.1 = some p.2 := by
  obtain ⟨b, hb, e⟩ := List.mem_filterMap.mp hp
  cases q : h.get? b with
  | none => rw [q] at e; cases e
  | some o =>
    rw [q] at e
    have e' : (b, o) = p := Option.some.inj e
    subst e'
    exact ⟨hb, q⟩
theorem Inv.pinned {pins : List (Addr × Obj)} {σ : St} {H : Hp} {s : Shared} {fp : List Addr} (I : Inv X pins σ H s) (hf : ∀ b ∈ fp, FpOk X pins H b) (ho : ∀ b ∈ fp, ∃ o, s.heap.get? b = some o ∧ ∀ v, o.data ≠ .cell v) : Inv X (pins ++ pinsAt fp s.heap) σ H s :=
  I.pins_of fun p hp => (List.mem_append.mp hp).elim (fun z => I.pin p (List.mem_append_right _ z)) fun z => by
    obtain ⟨hb, e⟩ := of_pinsAt z
    obtain ⟨f0, f1, f2, _⟩ := hf p.1 hb
    obtain ⟨o, e', d⟩ := ho p.1 hb
    rw [e] at e'; cases e'
    exact ⟨e, f0, f1, f2, d⟩
theorem Inv.unpinned {pins pl : List (Addr × Obj)} {σ : St} {H : Hp} {s : Shared} (I : Inv X (pins ++ pl) σ H s) : Inv X pins σ H s := I.pins_of fun p hp => I.pin p (List.mem_append_right _ (List.mem_append_left _ hp))
theorem ps_for {iter : Expr} {body : List Stmt} {wi : TI} {g : TG} {tb : TS} {pos : Pos} (hp : PassesOwn (model X.prog X.w) X.A X.env X.xe) (hc : X.calm = true) (hi : PI X tg iter wi) (hg : PG X tg g) (hb : PSs X body tb)
    (hs : ∀ x, foldedSetIterable iter X.env x = pure x := by intro _; rfl) : PS X (.For tg iter body [] pos) (tFor wi g tb) := by
  intro pins s σ H D I h
  refine wpAny_For (thn (hi pins s σ H _ I h) fun v s1 h1 => thn h1 fun itv s2 h2 => ?_) hs
  obtain ⟨it, fp, tn, J, H2, e, I2, T, st2, f2, W, ⟨m0, w0⟩, turn⟩ := h2
  subst e
  -- what stays true of the iterator's objects through the loop
  have stat : ∀ {H' : Hp}, (∀ b ∈ fp, H' b = none) → ∀ b ∈ fp, FpOk X pins H' b := fun hn b hb => ⟨hn b hb, (f2 b hb).2⟩
  refine codeAny_forLoop_any (fun n s' => ∃ i σ' H', Inv X pins σ' H' s' ∧ tn i s'.heap ∧ (∀ b ∈ fp, H' b = none) ∧ W i n σ' H') ?_ m0 ⟨0, σ, H2, I2, st2, fun b hb => (f2 b hb).1, w0⟩
  rintro n s3 ⟨i, σ3, H3, I3, st3, fr3, w3⟩
  rcases turn i n σ3 H3 w3 with ⟨stop, qn⟩ | ⟨go, N, hN, step⟩
  · refine wpAny_passesOwn hp (thn (T.done X rfl rfl rfl hc i pins s3 σ3 H3 X.xe I3 (stat fr3) st3 stop) fun r s4 ⟨hr, I4⟩ => ?_)
    subst hr
    exact wpAny_execs_nil ⟨σ3, H3, I4, qn⟩
  · refine wpAny_passesOwn hp (thn (T.item X rfl rfl rfl hc i pins s3 σ3 H3 X.xe I3 (stat fr3) st3 go) fun r s4 ⟨u, hr, h4⟩ => ?_)
    subst hr
    refine wpAny_passesOwn hp (thn h4 fun _ s5 ⟨x, H5, I5, r5, y5, st5, fr5⟩ => ?_)
    have I5' := I5.pinned (stat fr5) (T.obj _ _ st5)
    refine wpAny_passesOwn hp (thn (hg _ s5 σ3 H5 x u _ I5' r5 (step x H5 y5)) fun _ s6 ⟨σ6, H6, I6, q6⟩ => ?_)
    refine wpAny_passesOwn hp (thn (hb _ s6 σ6 H6 _ I6 q6) fun f s7 q7 => ?_)
    have again : ∀ {σ7 : St} {H7 : Hp}, Inv X (pins ++ pinsAt fp s5.heap) σ7 H7 s7 → N σ7 H7 → ∃ m, m < n ∧ ∃ i σ' H', Inv X pins σ' H' s7 ∧ tn i s7.heap ∧ (∀ b ∈ fp, H' b = none) ∧ W i m σ' H' := fun {σ7 H7} I7 n7 => by
      obtain ⟨m', hm, w7⟩ := hN σ7 H7 n7
      refine ⟨m', hm, i + 1, σ7, H7, I7.unpinned, T.keep _ _ _ st5 fun b hb o e => (I7.pin (b, o) (List.mem_append_right _ (List.mem_append_right _ (mem_pinsAt hb e)))).1, fun b hb => ?_, w7⟩
      obtain ⟨o, e, d⟩ := T.obj _ _ st5 b hb
      exact (I7.pin (b, o) (List.mem_append_right _ (List.mem_append_right _ (mem_pinsAt hb e)))).2.1
    cases f with
    | next => obtain ⟨σ7, H7, I7, n7⟩ := q7; exact again I7 n7
    | cont => obtain ⟨σ7, H7, I7, n7⟩ := q7; exact again I7 n7
    | brk => obtain ⟨σ7, H7, I7, q7⟩ := q7; exact ⟨σ7, H7, I7.unpinned, q7⟩
    | ret v => obtain ⟨x7, σ7, H7, I7, r7, q7⟩ := q7; exact ⟨x7, σ7, H7, I7.unpinned, r7, q7⟩
end
theorem for_list {K : PySem.W.Frag} {a : Addr} {xs : List V} {g : TG} {tb : TS} {D : Ends} {σ : St} {H : Hp} (Pv : Nat → St → Hp → Prop) (h0 : Pv 0 σ H) (hl : ∀ i σ H, i ≤ xs.length → Pv i σ H → SqL K H a xs)
    (hs : ∀ i x σ H, xs[i]? = some x → Pv i σ H → g x σ H fun σ2 H2 => tb { D with nx := Pv (i + 1), ct := Pv (i + 1), bk := D.nx } σ2 H2) (hd : ∀ σ H, Pv xs.length σ H → D.nx σ H) :
    ∃ W : Nat → Nat → St → Hp → Prop, (∃ m, W 0 m σ H) ∧ ∀ i m σ H, W i m σ H →
      ((Itl K a).stop i H ∧ D.nx σ H) ∨ ((Itl K a).go i H ∧ ∃ N : St → Hp → Prop, (∀ σ' H', N σ' H' → ∃ m', m' < m ∧ W (i + 1) m' σ' H') ∧ ∀ x H', (Itl K a).yld i H x H' → g x σ H' fun σ2 H2 => tb { D with nx := N, ct := N, bk := D.nx } σ2 H2) := by
  refine ⟨fun i m σ H => m = xs.length - i ∧ i ≤ xs.length ∧ Pv i σ H, ⟨xs.length, by simp, Nat.zero_le _, h0⟩, ?_⟩
  rintro i m σ H ⟨rfl, hi, p⟩
  have q := hl i σ H hi p
  by_cases hlt : i < xs.length
  · refine .inr ⟨⟨xs, xs[i], q, by simp [hlt]⟩, Pv (i + 1), fun σ' H' p' => ⟨xs.length - (i + 1), by omega, rfl, hlt, p'⟩, fun x H' y => ?_⟩
    obtain ⟨e, y⟩ := y
    subst e
    exact hs i x σ _ (y xs q) p
  · have e : i = xs.length := by omega
    subst e
    exact .inl ⟨⟨xs, q, Nat.le_refl _⟩, hd σ H p⟩
theorem for_tup {K : PySem.W.Frag} {a : Addr} {xs : List V} {g : TG} {tb : TS} {D : Ends} {σ : St} {H : Hp} (Pv : Nat → St → Hp → Prop) (h0 : Pv 0 σ H) (hl : ∀ i σ H, i ≤ xs.length → Pv i σ H → SqT K H a xs)
    (hs : ∀ i x σ H, xs[i]? = some x → Pv i σ H → g x σ H fun σ2 H2 => tb { D with nx := Pv (i + 1), ct := Pv (i + 1), bk := D.nx } σ2 H2) (hd : ∀ σ H, Pv xs.length σ H → D.nx σ H) :
    ∃ W : Nat → Nat → St → Hp → Prop, (∃ m, W 0 m σ H) ∧ ∀ i m σ H, W i m σ H →
      ((Itt K a).stop i H ∧ D.nx σ H) ∨ ((Itt K a).go i H ∧ ∃ N : St → Hp → Prop, (∀ σ' H', N σ' H' → ∃ m', m' < m ∧ W (i + 1) m' σ' H') ∧ ∀ x H', (Itt K a).yld i H x H' → g x σ H' fun σ2 H2 => tb { D with nx := N, ct := N, bk := D.nx } σ2 H2) := by
  refine ⟨fun i m σ H => m = xs.length - i ∧ i ≤ xs.length ∧ Pv i σ H, ⟨xs.length, by simp, Nat.zero_le _, h0⟩, ?_⟩
  rintro i m σ H ⟨rfl, hi, p⟩
  have q := hl i σ H hi p
  by_cases hlt : i < xs.length
  · refine .inr ⟨⟨xs, xs[i], q, by simp [hlt]⟩, Pv (i + 1), fun σ' H' p' => ⟨xs.length - (i + 1), by omega, rfl, hlt, p'⟩, fun x H' y => ?_⟩
    obtain ⟨e, y⟩ := y
    subst e
    exact hs i x σ _ (y xs q) p
  · have e : i = xs.length := by omega
    subst e
    exact .inl ⟨⟨xs, q, Nat.le_refl _⟩, hd σ H p⟩
theorem for_range {lo : Int} {n : Nat} {g : TG} {tb : TS} {D : Ends} {σ : St} {H : Hp} (Pv : Nat → St → Hp → Prop) (h0 : Pv 0 σ H)
    (hs : ∀ i σ H, i < n → Pv i σ H → g (.int (lo + i)) σ H fun σ2 H2 => tb { D with nx := Pv (i + 1), ct := Pv (i + 1), bk := D.nx } σ2 H2) (hd : ∀ σ H, Pv n σ H → D.nx σ H) :
    ∃ W : Nat → Nat → St → Hp → Prop, (∃ m, W 0 m σ H) ∧ ∀ i m σ H, W i m σ H →
      ((Itr lo n).stop i H ∧ D.nx σ H) ∨ ((Itr lo n).go i H ∧ ∃ N : St → Hp → Prop, (∀ σ' H', N σ' H' → ∃ m', m' < m ∧ W (i + 1) m' σ' H') ∧ ∀ x H', (Itr lo n).yld i H x H' → g x σ H' fun σ2 H2 => tb { D with nx := N, ct := N, bk := D.nx } σ2 H2) := by
  refine ⟨fun i m σ H => m = n - i ∧ i ≤ n ∧ Pv i σ H, ⟨n, by simp, Nat.zero_le _, h0⟩, ?_⟩
  rintro i m σ H ⟨rfl, hi, p⟩
  by_cases hlt : i < n
  · refine .inr ⟨hlt, Pv (i + 1), fun σ' H' p' => ⟨n - (i + 1), by omega, rfl, hlt, p'⟩, fun x H' y => ?_⟩
    obtain ⟨e, y⟩ := y
    subst e y
    exact hs i σ _ hlt p
  · have e : i = n := by omega
    subst e
    exact .inl ⟨Nat.le_refl _, hd σ H p⟩
theorem while_by {c : TT} {tb : TS} {D : Ends} {σ : St} {H : Hp} (Pv : St → Hp → Prop) (μ : St → Hp → Nat) (h0 : Pv σ H)
    (hs : ∀ σ H, Pv σ H → c σ H fun b H1 => if b = true then tb { D with nx := fun σ' H' => Pv σ' H' ∧ μ σ' H' < μ σ H, ct := fun σ' H' => Pv σ' H' ∧ μ σ' H' < μ σ H, bk := D.nx } σ H1 else D.nx σ H1)
    (mono : ∀ σ H Q Q', (∀ b H1, Q b H1 → Q' b H1) → c σ H Q → c σ H Q') : tWhile c tb D σ H := by
  refine ⟨fun m σ H => m = μ σ H ∧ Pv σ H, ⟨_, rfl, h0⟩, ?_⟩
  rintro m σ H ⟨rfl, p⟩
  refine mono σ H _ _ (fun b H1 q => ?_) (hs σ H p)
  cases b with
  | true => exact ⟨_, fun σ' H' ⟨p', l⟩ => ⟨_, l, rfl, p'⟩, q⟩
  | false => exact q
end L2
namespace L2
open PySem PySem.Spec PyProof.Rows
abbrev R2 := V → V → Hp → VK → Prop
def OpR (X : Cx) (f : Value → Value → Sem Value) (r : R2) : Prop :=
  ∀ (pins : List (Addr × Obj)) (s : Shared) (σ : St) (H : Hp) (x y : V) (v u : Value) (Q : VK), Inv X pins σ H s → RelV x v → RelV y u → r x y H Q →
    wpAny (model X.prog X.w) X.A (f v u) (EP X pins σ Q) X.xe s
def UnR (X : Cx) (f : Value → Sem Value) (r : V → Hp → VK → Prop) : Prop :=
  ∀ (pins : List (Addr × Obj)) (s : Shared) (σ : St) (H : Hp) (x : V) (v : Value) (Q : VK), Inv X pins σ H s → RelV x v → r x H Q →
    wpAny (model X.prog X.w) X.A (f v) (EP X pins σ Q) X.xe s
def CallR (X : Cx) (f : Value) (r : List V → Hp → VK → Prop) : Prop :=
  ∀ (pins : List (Addr × Obj)) (s : Shared) (σ : St) (H : Hp) (xs : List V) (us : List Value) (Q : VK), Inv X pins σ H s → Vals xs us → r xs H Q →
    wpAny (model X.prog X.w) X.A (call f us) (EP X pins σ Q) X.xe s
def TruR (X : Cx) (r : V → Hp → (Bool → Hp → Prop) → Prop) : Prop :=
  ∀ (pins : List (Addr × Obj)) (s : Shared) (σ : St) (H : Hp) (x : V) (v : Value) (Q : Bool → Hp → Prop), Inv X pins σ H s → RelV x v → r x H Q →
    wpAny (model X.prog X.w) X.A (truthy v) (TP X pins σ Q) X.xe s
def tOp (r : R2) (ta tb : TE) : TE := fun σ H Q => ta σ H fun x H1 => tb σ H1 fun y H2 => r x y H2 Q
def tUn (r : V → Hp → VK → Prop) (ta : TE) : TE := fun σ H Q => ta σ H fun x H1 => r x H1 Q
def rI (C : Int → Int → Prop) (g : Int → Int → V) : R2 := fun x y H Q => ∃ i j, x = .int i ∧ y = .int j ∧ C i j ∧ Q (g i j) H
def rI0 (g : Int → Int → V) : R2 := fun x y H Q => ∃ i j, x = .int i ∧ y = .int j ∧ Q (g i j) H
def rU (g : Int → V) : V → Hp → VK → Prop := fun x H Q => ∃ i, x = .int i ∧ Q (g i) H
section
variable {X : Cx} {a b c : Expr} {ta tb tc : TE} {pos : Pos}
theorem binT (ha : PE X a ta) (hb : PE X b tb) {pins : List (Addr × Obj)} {s : Shared} {σ : St} {H : Hp} {R : V → V → Hp → Prop} (I : Inv X pins σ H s)
    (h : ta σ H fun x H1 => tb σ H1 fun y H2 => R x y H2) {Q : Value → Shared → Prop} {f : Value → Value → Sem Value}
    (hf : ∀ v u s2 x y H2, Inv X pins σ H2 s2 → RelV x v → RelV y u → R x y H2 → wpAny (model X.prog X.w) X.A (f v u) Q X.xe s2) :
    wpAny (model X.prog X.w) X.A (eval a X.env) (fun v s₁ => wpAny (model X.prog X.w) X.A (eval b X.env) (fun u s₂ => wpAny (model X.prog X.w) X.A (f v u) Q X.xe s₂) X.xe s₁) X.xe s := by
  refine thn (ha pins s σ H _ I h) fun v s1 ⟨x, H1, I1, r1, q1⟩ => ?_
  refine thn (hb pins s1 σ H1 _ I1 q1) fun u s2 ⟨y, H2, I2, r2, q2⟩ => ?_
  exact hf v u s2 x y H2 I2 r1 r2 q2
theorem pe_op {op : Operator} {r : R2} (ho : OpR X (binaryOp op) r) (ha : PE X a ta) (hb : PE X b tb) : PE X (.BinOp a op b pos) (tOp r ta tb) := by
  intro pins s σ H Q I h
  exact wpAny_BinOp (binT ha hb I h fun v u s2 x y H2 I2 rx ry q => ho pins s2 σ H2 x y v u Q I2 rx ry q)
theorem pe_un {op : UnaryOp} {r : V → Hp → VK → Prop} (ho : UnR X (unaryOp op) r) (ha : PE X a ta) : PE X (.UnaryOp op a pos) (tUn r ta) := by
  intro pins s σ H Q I h
  exact UnaryOp_ (thn (ha pins s σ H _ I h) fun v s1 ⟨x, H1, I1, r1, q1⟩ => ho pins s1 σ H1 x v Q I1 r1 q1)
theorem augR {op : Operator} {r : R2} (ho : OpR X (inplaceOp op) r) {pins : List (Addr × Obj)} {s : Shared} {σ : St} {H : Hp} {x y : V} {v u : Value} {Q : VK} (I : Inv X pins σ H s)
    (rx : RelV x v) (ry : RelV y u) (q : r x y H Q) : wpAny (model X.prog X.w) X.A (inplaceOp op v u) (EP X pins σ Q) X.xe s := ho pins s σ H x y v u Q I rx ry q
theorem opI {f : Value → Value → Sem Value} {C : Int → Int → Prop} {g : Int → Int → Int}
    (rule : ∀ (i j : Int) (t u : Tok) (s : Shared) (Q : Value → Shared → Prop) (E : Value → Shared → Prop), C i j → Q (.int (g i j) s.toks) { s with toks := s.toks + 1 } → wpAny (model X.prog X.w) X.A (f (.int i t) (.int j u)) Q E s) :
    OpR X f (rI C fun i j => .int (g i j)) := by
  intro pins s σ H x y v u Q I rx ry h
  obtain ⟨i, j, rfl, rfl, hc, q⟩ := h
  obtain ⟨t, rfl⟩ := rx
  obtain ⟨t', rfl⟩ := ry
  exact rule i j t t' s _ _ hc ⟨.int (g i j), H, I.tok _, ⟨_, rfl⟩, q⟩
theorem opI0 {f : Value → Value → Sem Value} {g : Int → Int → Int}
    (rule : ∀ (i j : Int) (t u : Tok) (s : Shared) (Q : Value → Shared → Prop) (E : Value → Shared → Prop), Q (.int (g i j) s.toks) { s with toks := s.toks + 1 } → wpAny (model X.prog X.w) X.A (f (.int i t) (.int j u)) Q E s) :
    OpR X f (rI0 fun i j => .int (g i j)) := by
  intro pins s σ H x y v u Q I rx ry h
  obtain ⟨i, j, rfl, rfl, q⟩ := h
  obtain ⟨t, rfl⟩ := rx
  obtain ⟨t', rfl⟩ := ry
  exact rule i j t t' s _ _ ⟨.int (g i j), H, I.tok _, ⟨_, rfl⟩, q⟩
theorem opB0 {f : Value → Value → Sem Value} {g : Int → Int → Bool}
    (rule : ∀ (i j : Int) (t u : Tok) (s : Shared) (Q : Value → Shared → Prop) (E : Value → Shared → Prop), Q (.bool (g i j)) s → wpAny (model X.prog X.w) X.A (f (.int i t) (.int j u)) Q E s) :
    OpR X f (rI0 fun i j => .bl (g i j)) := by
  intro pins s σ H x y v u Q I rx ry h
  obtain ⟨i, j, rfl, rfl, q⟩ := h
  obtain ⟨t, rfl⟩ := rx
  obtain ⟨t', rfl⟩ := ry
  exact rule i j t t' s _ _ ⟨.bl (g i j), H, I, rfl, q⟩
def CDiv (i j : Int) : Prop := 0 < j ∧ j < 1073741824
def CDivN (i j : Int) : Prop := j ≠ 0 ∧ j.natAbs < 1073741824
def CPow (i j : Int) : Prop := 0 ≤ j ∧ j ≤ 1000000 ∧ i.natAbs < 2 ^ 64
def CMul (i j : Int) : Prop := (-(2 ^ 64) < i ∧ i < 2 ^ 64) ∨ (-(2 ^ 64) < j ∧ j < 2 ^ 64)
theorem CMul.ok {i j : Int} (h : CMul i j) : IntMulOk i j := by
  rcases h with ⟨h1, h2⟩ | ⟨h1, h2⟩
  · exact .of_left (intBits_le_64 h1 h2)
  · exact .of_right (intBits_le_64 h1 h2)
theorem two_pow_nn (k : Nat) : (0 : Int) ≤ 2 ^ k := by
  rw [two_pow_cast]
  exact Int.natCast_nonneg _
theorem op_add : OpR X (binaryOp .Add) (rI0 fun i j => .int (i + j)) := opI0 fun _ _ _ _ _ _ _ q => add_int q
theorem op_sub : OpR X (binaryOp .Sub) (rI0 fun i j => .int (i - j)) := opI0 fun _ _ _ _ _ _ _ q => sub_int q
theorem op_mul : OpR X (binaryOp .Mult) (rI CMul fun i j => .int (i * j)) := opI fun _ _ _ _ _ _ _ hc q => mul_int q hc.ok
theorem op_fdiv : OpR X (binaryOp .FloorDiv) (rI CDiv fun i j => .int (i / j)) := opI fun i j _ _ _ _ _ hc q => by
  have h1 : (0 : Int) < j := hc.1
  have h2 : j < 1073741824 := hc.2
  exact floordiv_int (by omega) (by rw [Int.fdiv_eq_ediv_of_nonneg i (by omega)]; exact q) (.inl (PyProof.noPylong_small (by omega)))
theorem op_fdivN : OpR X (binaryOp .FloorDiv) (rI CDivN fun i j => .int (i.fdiv j)) := opI fun _ _ _ _ _ _ _ hc q => floordiv_int hc.1 q (.inl (PyProof.noPylong_small hc.2))
theorem op_mod : OpR X (binaryOp .Mod) (rI (fun _ j => 0 < j) fun i j => .int (i % j)) := opI fun i j _ _ _ _ _ hc q => by
  have h1 : (0 : Int) < j := hc
  exact mod_int' (by omega) (by rw [Int.fmod_eq_emod_of_nonneg i (by omega)]; exact q)
theorem op_modN : OpR X (binaryOp .Mod) (rI (fun _ j => j ≠ 0) fun i j => .int (i.fmod j)) := opI fun _ _ _ _ _ _ _ hc q => mod_int' hc q
theorem op_pow : OpR X (binaryOp .Pow) (rI CPow fun i j => .int (i ^ j.toNat)) := opI fun _ _ _ _ _ _ _ hc q => pow_int_small hc.1 hc.2.1 hc.2.2 q
theorem op_shl : OpR X (binaryOp .LShift) (rI CPow fun i j => .int (i * 2 ^ j.toNat)) := opI fun _ _ _ _ _ _ _ hc q => lshift_int_small hc.1 hc.2.1 hc.2.2 q
theorem op_shr : OpR X (binaryOp .RShift) (rI (fun _ j => 0 ≤ j) fun i j => .int (i / 2 ^ j.toNat)) := opI fun i j _ _ _ _ _ hc q =>
  rshift_int hc (by rw [Int.fdiv_eq_ediv_of_nonneg i (two_pow_nn _)]; exact q)
theorem op_and : OpR X (binaryOp .BitAnd) (rI0 fun i j => .int (Builtin.bitAnd i j)) := opI0 fun _ _ _ _ _ _ _ q => and_int q
theorem op_or : OpR X (binaryOp .BitOr) (rI0 fun i j => .int (Builtin.bitOr i j)) := opI0 fun _ _ _ _ _ _ _ q => or_int q
theorem op_xor : OpR X (binaryOp .BitXor) (rI0 fun i j => .int (Builtin.bitXor i j)) := opI0 fun _ _ _ _ _ _ _ q => xor_int q
theorem iop_add : OpR X (inplaceOp .Add) (rI0 fun i j => .int (i + j)) := opI0 fun _ _ _ _ _ _ _ q => iadd_int q
theorem iop_sub : OpR X (inplaceOp .Sub) (rI0 fun i j => .int (i - j)) := opI0 fun _ _ _ _ _ _ _ q => isub_int q
theorem iop_mul : OpR X (inplaceOp .Mult) (rI CMul fun i j => .int (i * j)) := opI fun _ _ _ _ _ _ _ hc q => imul_int q hc.ok
theorem iop_fdiv : OpR X (inplaceOp .FloorDiv) (rI CDiv fun i j => .int (i / j)) := opI fun i j _ _ _ _ _ hc q => by
  have h1 : (0 : Int) < j := hc.1
  have h2 : j < 1073741824 := hc.2
  exact ifloordiv_int (by omega) (by rw [Int.fdiv_eq_ediv_of_nonneg i (by omega)]; exact q) (.inl (PyProof.noPylong_small (by omega)))
theorem iop_mod : OpR X (inplaceOp .Mod) (rI (fun _ j => 0 < j) fun i j => .int (i % j)) := opI fun i j _ _ _ _ _ hc q => by
  have h1 : (0 : Int) < j := hc
  exact imod_int (by omega) (by rw [Int.fmod_eq_emod_of_nonneg i (by omega)]; exact q)
theorem iop_shl : OpR X (inplaceOp .LShift) (rI CPow fun i j => .int (i * 2 ^ j.toNat)) := opI fun _ _ _ _ _ _ _ hc q => ilshift_int_small hc.1 hc.2.1 hc.2.2 q
theorem iop_shr : OpR X (inplaceOp .RShift) (rI (fun _ j => 0 ≤ j) fun i j => .int (i / 2 ^ j.toNat)) := opI fun i j _ _ _ _ _ hc q =>
  irshift_int hc (by rw [Int.fdiv_eq_ediv_of_nonneg i (two_pow_nn _)]; exact q)
theorem iop_and : OpR X (inplaceOp .BitAnd) (rI0 fun i j => .int (Builtin.bitAnd i j)) := opI0 fun _ _ _ _ _ _ _ q => iand_int q
theorem iop_or : OpR X (inplaceOp .BitOr) (rI0 fun i j => .int (Builtin.bitOr i j)) := opI0 fun _ _ _ _ _ _ _ q => ior_int q
theorem iop_xor : OpR X (inplaceOp .BitXor) (rI0 fun i j => .int (Builtin.bitXor i j)) := opI0 fun _ _ _ _ _ _ _ q => ixor_int q
theorem unI {f : Value → Sem Value} {g : Int → Int}
    (rule : ∀ (i : Int) (t : Tok) (s : Shared) (Q : Value → Shared → Prop) (E : Value → Shared → Prop), Q (.int (g i) s.toks) { s with toks := s.toks + 1 } → wpAny (model X.prog X.w) X.A (f (.int i t)) Q E s) :
    UnR X f (rU fun i => .int (g i)) := by
  intro pins s σ H x v Q I rx h
  obtain ⟨i, rfl, q⟩ := h
  obtain ⟨t, rfl⟩ := rx
  exact rule i t s _ _ ⟨.int (g i), H, I.tok _, ⟨_, rfl⟩, q⟩
theorem un_neg : UnR X (unaryOp .USub) (rU fun i => .int (-i)) := unI fun _ _ _ _ _ q => neg_int q
theorem un_inv : UnR X (unaryOp .Invert) (rU fun i => .int (Builtin.bitNot i)) := unI fun _ _ _ _ _ q => invert_int q
theorem op_add_ib : OpR X (binaryOp .Add) (fun x y H Q => ∃ i k, x = .int i ∧ y = .bl k ∧ Q (.int (i + b2i k)) H) := by
  intro pins s σ H x y v u Q I rx ry h
  obtain ⟨i, k, rfl, rfl, q⟩ := h
  obtain ⟨t, rfl⟩ := rx
  cases ry
  exact add_int_bool ⟨.int (i + b2i k), H, I.tok _, ⟨_, rfl⟩, q⟩
end
def scal : V → V → Bool
  | .non, .non => true | .non, .int _ => true | .int _, .non => true | .non, .bl _ => true | .bl _, .non => true | .non, .str _ => true | .str _, .non => true
  | .int _, .int _ => true | .bl _, .bl _ => true | .str _, .str _ => true | .byt _, .byt _ => true
  | .int _, .str _ => true | .str _, .int _ => true | .bl _, .str _ => true | .str _, .bl _ => true
  | _, _ => false
def rEq : R2 := fun x y H Q => scal x y = true ∧ Q (.bl (decide (x = y))) H
def rNe : R2 := fun x y H Q => scal x y = true ∧ Q (.bl (!decide (x = y))) H
theorem dec_int {i j : Int} : decide (V.int i = V.int j) = (i == j) := by
  rw [Bool.eq_iff_iff]
  simp
theorem dec_bl {i j : Bool} : decide (V.bl i = V.bl j) = (i == j) := by
  rw [Bool.eq_iff_iff]
  simp
theorem dec_str {i j : Str} : decide (V.str i = V.str j) = (i == j) := by
  rw [Bool.eq_iff_iff]
  simp
theorem dec_byt {i j : Array UInt8} : decide (V.byt i = V.byt j) = (i.toList == j.toList) := by
  rw [Bool.eq_iff_iff]
  cases i
  cases j
  simp
section
variable {X : Cx} {a b c : Expr} {ta tb tc : TE} {pos : Pos}
theorem fin_bl {pins : List (Addr × Obj)} {σ : St} {H : Hp} {s : Shared} {Q : VK} {k k' : Bool} (I : Inv X pins σ H s) (q : Q (.bl k) H) (e : k = k') : EP X pins σ Q (.bool k') s := by
  subst e
  exact ⟨.bl k, H, I, rfl, q⟩
theorem op_eq : OpR X (compareOp .Eq) rEq := by
  intro pins s σ H x y v u Q I rx ry h
  obtain ⟨hs, q⟩ := h
  cases x with
  | non =>
    cases rx
    cases y with
    | non => cases ry; exact PySem.EqNone.eq_none_none (fin_bl I q (by simp))
    | bl j => cases ry; exact PySem.EqNone.eq_none_bool (fin_bl I q (by simp))
    | int j => obtain ⟨t', rfl⟩ := ry; exact PySem.EqNone.eq_none_int (fin_bl I q (by simp))
    | str j => obtain ⟨t', rfl⟩ := ry; exact PySem.EqNone.eq_none_str (fin_bl I q (by simp))
    | _ => exact absurd (show false = true from hs) Bool.false_ne_true
  | bl i =>
    cases rx
    cases y with
    | non => cases ry; exact PySem.EqNone.eq_bool_none (fin_bl I q (by simp))
    | bl j => cases ry; exact eq_bool (fin_bl I q dec_bl)
    | str j => obtain ⟨t', rfl⟩ := ry; exact PySem.EqMixed.eq_bool_str (fin_bl I q (by simp))
    | _ => exact absurd (show false = true from hs) Bool.false_ne_true
  | int i =>
    obtain ⟨t, rfl⟩ := rx
    cases y with
    | non => cases ry; exact PySem.EqNone.eq_int_none (fin_bl I q (by simp))
    | int j => obtain ⟨t', rfl⟩ := ry; exact eq_int (fin_bl I q dec_int)
    | str j => obtain ⟨t', rfl⟩ := ry; exact PySem.EqMixed.eq_int_str (fin_bl I q (by simp))
    | _ => exact absurd (show false = true from hs) Bool.false_ne_true
  | str i =>
    obtain ⟨t, rfl⟩ := rx
    cases y with
    | non => cases ry; exact PySem.EqNone.eq_str_none (fin_bl I q (by simp))
    | bl j => cases ry; exact PySem.EqMixed.eq_str_bool (fin_bl I q (by simp))
    | int j => obtain ⟨t', rfl⟩ := ry; exact PySem.EqMixed.eq_str_int (fin_bl I q (by simp))
    | str j => obtain ⟨t', rfl⟩ := ry; exact eq_str (fin_bl I q dec_str)
    | _ => exact absurd (show false = true from hs) Bool.false_ne_true
  | byt i =>
    obtain ⟨t, rfl⟩ := rx
    cases y with
    | byt j => obtain ⟨t', rfl⟩ := ry; exact PySem.W.eq_bytes (fin_bl I q dec_byt)
    | _ => exact absurd (show false = true from hs) Bool.false_ne_true
  | _ => cases y <;> exact absurd (show false = true from hs) Bool.false_ne_true
theorem op_ne : OpR X (compareOp .NotEq) rNe := by
  intro pins s σ H x y v u Q I rx ry h
  obtain ⟨hs, q⟩ := h
  cases x with
  | non =>
    cases rx
    cases y with
    | non => cases ry; exact PySem.EqNone.ne_none_none (fin_bl I q (by simp))
    | bl j => cases ry; exact PySem.EqNone.ne_none_bool (fin_bl I q (by simp))
    | int j => obtain ⟨t', rfl⟩ := ry; exact PySem.EqNone.ne_none_int (fin_bl I q (by simp))
    | str j => obtain ⟨t', rfl⟩ := ry; exact PySem.EqNone.ne_none_str (fin_bl I q (by simp))
    | _ => exact absurd (show false = true from hs) Bool.false_ne_true
  | bl i =>
    cases rx
    cases y with
    | non => cases ry; exact PySem.EqNone.ne_bool_none (fin_bl I q (by simp))
    | bl j => cases ry; exact ne_bool (fin_bl I q (congrArg not dec_bl))
    | str j => obtain ⟨t', rfl⟩ := ry; exact PySem.EqMixed.ne_bool_str (fin_bl I q (by simp))
    | _ => exact absurd (show false = true from hs) Bool.false_ne_true
  | int i =>
    obtain ⟨t, rfl⟩ := rx
    cases y with
    | non => cases ry; exact PySem.EqNone.ne_int_none (fin_bl I q (by simp))
    | int j => obtain ⟨t', rfl⟩ := ry; exact ne_int (fin_bl I q (congrArg not dec_int))
    | str j => obtain ⟨t', rfl⟩ := ry; exact PySem.EqMixed.ne_int_str (fin_bl I q (by simp))
    | _ => exact absurd (show false = true from hs) Bool.false_ne_true
  | str i =>
    obtain ⟨t, rfl⟩ := rx
    cases y with
    | non => cases ry; exact PySem.EqNone.ne_str_none (fin_bl I q (by simp))
    | bl j => cases ry; exact PySem.EqMixed.ne_str_bool (fin_bl I q (by simp))
    | int j => obtain ⟨t', rfl⟩ := ry; exact PySem.EqMixed.ne_str_int (fin_bl I q (by simp))
    | str j => obtain ⟨t', rfl⟩ := ry; exact ne_str (fin_bl I q (congrArg not dec_str))
    | _ => exact absurd (show false = true from hs) Bool.false_ne_true
  | byt i =>
    obtain ⟨t, rfl⟩ := rx
    cases y with
    | byt j => obtain ⟨t', rfl⟩ := ry; exact PySem.W.ne_bytes (fin_bl I q (congrArg not dec_byt))
    | _ => exact absurd (show false = true from hs) Bool.false_ne_true
  | _ => cases y <;> exact absurd (show false = true from hs) Bool.false_ne_true
theorem op_lt : OpR X (compareOp .Lt) (rI0 fun i j => .bl (decide (i < j))) := opB0 fun _ _ _ _ _ _ _ q => lt_int q
theorem op_le : OpR X (compareOp .LtE) (rI0 fun i j => .bl (decide (i ≤ j))) := opB0 fun _ _ _ _ _ _ _ q => le_int q
theorem op_gt : OpR X (compareOp .Gt) (rI0 fun i j => .bl (decide (j < i))) := opB0 fun _ _ _ _ _ _ _ q => gt_int q
theorem op_ge : OpR X (compareOp .GtE) (rI0 fun i j => .bl (decide (j ≤ i))) := opB0 fun _ _ _ _ _ _ _ q => ge_int q
theorem op_lt_str : OpR X (compareOp .Lt) (fun x y H Q => ∃ i j, x = .str i ∧ y = .str j ∧ Q (.bl (decide (i.cps.toList < j.cps.toList))) H) := by
  intro pins s σ H x y v u Q I rx ry h
  obtain ⟨i, j, rfl, rfl, q⟩ := h
  obtain ⟨t, rfl⟩ := rx
  obtain ⟨t', rfl⟩ := ry
  exact lt_str (fin_bl I q rfl)
theorem op_in_str : OpR X (compareOp .In) (fun x y H Q => ∃ i j, x = .str i ∧ y = .str j ∧ Q (.bl (!(Builtin.Str.occurrences j i 0 j.length 1).isEmpty)) H) := by
  intro pins s σ H x y v u Q I rx ry h
  obtain ⟨i, j, rfl, rfl, q⟩ := h
  obtain ⟨t, rfl⟩ := rx
  obtain ⟨t', rfl⟩ := ry
  exact in_str (fin_bl I q rfl)
theorem op_isN : OpR X (compareOp .Is) (fun x y H Q => y = .non ∧ Q (.bl (decide (x = .non))) H) := by
  intro pins s σ H x y v u Q I rx ry h
  obtain ⟨rfl, q⟩ := h
  cases ry
  refine is_none_gen (fin_bl I q ?_)
  cases x <;> first
    | (cases rx; rfl)
    | (obtain ⟨t, rfl⟩ := rx; rfl)
theorem op_notN : OpR X (compareOp .IsNot) (fun x y H Q => y = .non ∧ Q (.bl (!decide (x = .non))) H) := by
  intro pins s σ H x y v u Q I rx ry h
  obtain ⟨rfl, q⟩ := h
  cases ry
  refine isnot_none_gen (fin_bl I q ?_)
  cases x <;> first
    | (cases rx; rfl)
    | (obtain ⟨t, rfl⟩ := rx; rfl)
theorem op_notin_str : OpR X (compareOp .NotIn) (fun x y H Q => ∃ i j, x = .str i ∧ y = .str j ∧ Q (.bl (!(!(Builtin.Str.occurrences j i 0 j.length 1).isEmpty))) H) := by
  intro pins s σ H x y v u Q I rx ry h
  obtain ⟨i, j, rfl, rfl, q⟩ := h
  obtain ⟨t, rfl⟩ := rx
  obtain ⟨t', rfl⟩ := ry
  exact notIn_str (fin_bl I q rfl)
def isObj : HO → Bool
  | .lst _ => true
  | .ins _ _ _ => true
  | _ => false
theorem obj_there {pins : List (Addr × Obj)} {s : Shared} {σ : St} {H : Hp} {a : Addr} {o : HO} (I : Inv X pins σ H s) (h : H a = some o) (p : isObj o = true) : ∃ ob, s.heap.get? a = some ob ∧ ob.cls ≠ .type "tuple" := by
  cases o with
  | lst xs =>
    obtain ⟨_, its, n, _, e⟩ : xs.length ≤ sizeLine ∧ ∃ (its : List Value) (n : Nat), Vals xs its ∧ s.heap.get? a = some { cls := .type "list", data := .seq its.toArray n } := I.hok a _ h
    exact ⟨_, e, (by show Value.type "list" ≠ .type "tuple"; decide +kernel)⟩
  | ins C dx fs =>
    have x := I.hok a _ h
    obtain ⟨_, _, _, e, _⟩ := x
    exact ⟨_, e, (by show Value.ref C ≠ .type "tuple"; exact fun z => by cases z)⟩
  | _ => exact absurd (show false = true from p) Bool.false_ne_true
theorem op_is_ref : OpR X (compareOp .Is) (fun x y H Q => ∃ a b oa ob, x = .ref a ∧ y = .ref b ∧ H a = some oa ∧ isObj oa = true ∧ H b = some ob ∧ isObj ob = true ∧ Q (.bl (decide (a = b))) H) := by
  intro pins s σ H x y v u Q I rx ry h
  obtain ⟨a, b, oa, ob, rfl, rfl, ha, pa, hb, pb, q⟩ := h
  cases rx
  cases ry
  obtain ⟨o1, e1, n1⟩ := obj_there I ha pa
  obtain ⟨o2, e2, _⟩ := obj_there I hb pb
  by_cases z : a = b
  · subst z
    exact wpAny_is_ref_self (fin_bl I q (by simp))
  · exact wpAny_is_ref_other z e1 e2 n1 (fin_bl I q (by simp [z]))
theorem op_isnot_ref : OpR X (compareOp .IsNot) (fun x y H Q => ∃ a b oa ob, x = .ref a ∧ y = .ref b ∧ H a = some oa ∧ isObj oa = true ∧ H b = some ob ∧ isObj ob = true ∧ Q (.bl (!decide (a = b))) H) := by
  intro pins s σ H x y v u Q I rx ry h
  obtain ⟨a, b, oa, ob, rfl, rfl, ha, pa, hb, pb, q⟩ := h
  cases rx
  cases ry
  obtain ⟨o1, e1, n1⟩ := obj_there I ha pa
  obtain ⟨o2, e2, _⟩ := obj_there I hb pb
  by_cases z : a = b
  · subst z
    exact wpAny_isNot_ref_self (fin_bl I q (by simp))
  · exact wpAny_isNot_ref_other z e1 e2 n1 (fin_bl I q (by simp [z]))
theorem OpR.or {f : Value → Value → Sem Value} {r r' : R2} (h : OpR X f r) (h' : OpR X f r') : OpR X f (fun x y H Q => r x y H Q ∨ r' x y H Q) := by
  intro pins s σ H x y v u Q I rx ry q
  rcases q with q | q
  · exact h pins s σ H x y v u Q I rx ry q
  · exact h' pins s σ H x y v u Q I rx ry q
theorem nomark (b : Expr) {op : CmpOp} (h : op ≠ .In := by decide) (h2 : op ≠ .NotIn := by decide) : behindInMarks op b = false := by
  have e1 : (op == CmpOp.In) = false := by cases op <;> first | rfl | exact absurd rfl h
  have e2 : (op == CmpOp.NotIn) = false := by cases op <;> first | rfl | exact absurd rfl h2
  cases b <;> simp [behindInMarks, e1, e2]
theorem pe_cmpR {op : CmpOp} {r : R2} (ho : OpR X (compareOp op) r) (ha : PE X a ta) (hb : PE X b tb) (hm : behindInMarks op b = false) : PE X (.Compare a [op] [b] pos) (tOp r ta tb) := by
  intro pins s σ H Q I h
  exact wpAny_Compare1 (binT ha hb I h fun v u s2 x y H2 I2 rx ry q => ho pins s2 σ H2 x y v u Q I2 rx ry q) hm
def tTest (t : TE) : TT := fun σ H Q => t σ H fun x H' => ∃ k, x = .bl k ∧ Q k H'
theorem pt_cmpR {op : CmpOp} {r : R2} (ho : OpR X (compareOp op) r) (ha : PE X a ta) (hb : PE X b tb) (hm : behindInMarks op b = false) : PT X (.Compare a [op] [b] pos) (tTest (tOp r ta tb)) := by
  intro pins s σ H Q I h
  refine wpAny_isTrue_Compare1 (thn (ha pins s σ H _ I h) fun v s1 ⟨x, H1, I1, r1, q1⟩ => thn (hb pins s1 σ H1 _ I1 q1) fun u s2 ⟨y, H2, I2, r2, q2⟩ =>
    thn (ho pins s2 σ H2 x y v u _ I2 r1 r2 q2) fun c s3 ⟨z, H3, I3, r3, k, e, q3⟩ => ?_) hm
  subst e
  cases r3
  exact wpAny_truthy_bool ⟨H3, I3, q3⟩
def tChain (r r' : R2) (ta tb tc : TE) : TE := fun σ H Q => ta σ H fun x H1 => tb σ H1 fun y H2 => r x y H2 fun z H3 => ∃ k, z = .bl k ∧
  (if k = true then tc σ H3 fun w' H4 => r' y w' H4 Q else Q (.bl false) H3)
theorem pe_chain {op op' : CmpOp} {r r' : R2} (ho : OpR X (compareOp op) r) (ho' : OpR X (compareOp op') r') (ha : PE X a ta) (hb : PE X b tb) (hc : PE X c tc)
    (hm : lastMarks [op, op'] [b, c] = false := by with_unfolding_all rfl) : PE X (.Compare a [op, op'] [b, c] pos) (tChain r r' ta tb tc) := by
  intro pins s σ H Q I h
  refine Compare_chain (thn (ha pins s σ H _ I h) fun v s1 ⟨x, H1, I1, r1, q1⟩ => chain_link (thn (hb pins s1 σ H1 _ I1 q1) fun u s2 ⟨y, H2, I2, r2, q2⟩ =>
    thn (ho pins s2 σ H2 x y v u _ I2 r1 r2 q2) fun d s3 ⟨z, H3, I3, r3, k, e, q3⟩ => ?_)) hm
  subst e
  cases r3
  refine wpAny_truthy_bool ?_
  cases k with
  | false => exact ite_ff ⟨.bl false, H3, I3, rfl, q3⟩
  | true => exact ite_tt (chain_last (thn (hc pins s3 σ H3 _ I3 q3) fun w' s4 ⟨z', H4, I4, r4, q4⟩ => ho' pins s4 σ H4 y z' u w' Q I4 r2 r4 q4))
theorem pt_chain {op op' : CmpOp} {r r' : R2} (ho : OpR X (compareOp op) r) (ho' : OpR X (compareOp op') r') (ha : PE X a ta) (hb : PE X b tb) (hc : PE X c tc)
    (hm : lastMarks [op, op'] [b, c] = false := by with_unfolding_all rfl) : PT X (.Compare a [op, op'] [b, c] pos) (tTest (tChain r r' ta tb tc)) := by
  intro pins s σ H Q I h
  refine isTrue_chain (thn (ha pins s σ H _ I h) fun v s1 ⟨x, H1, I1, r1, q1⟩ => test_link (thn (hb pins s1 σ H1 _ I1 q1) fun u s2 ⟨y, H2, I2, r2, q2⟩ =>
    thn (ho pins s2 σ H2 x y v u _ I2 r1 r2 q2) fun d s3 ⟨z, H3, I3, r3, k, e, q3⟩ => ?_)) hm
  subst e
  cases r3
  refine wpAny_truthy_bool ?_
  cases k with
  | false =>
    obtain ⟨k', e', q'⟩ := q3
    cases e'
    exact ite_ff ⟨H3, I3, q'⟩
  | true =>
    refine ite_tt (test_last (thn (hc pins s3 σ H3 _ I3 q3) fun w' s4 ⟨z', H4, I4, r4, q4⟩ => thn (ho' pins s4 σ H4 y z' u w' _ I4 r2 r4 q4) fun d' s5 ⟨z2, H5, I5, r5, k2, e2, q5⟩ => ?_))
    subst e2
    cases r5
    exact wpAny_truthy_bool ⟨H5, I5, q5⟩
def TruV (K : PySem.W.Frag) (x : V) (H : Hp) (k : Bool) : Prop :=
  match x with
  | .non => k = false
  | .bl b => k = b
  | .int i => k = (i != 0)
  | .str y => y.length ≤ sizeLine ∧ k = ((y.length : Int) != 0)
  | .byt y => y.size ≤ sizeLine ∧ k = ((y.size : Int) != 0)
  | .ref p => (∃ xs, SqL K H p xs ∧ k = !xs.isEmpty) ∨ (∃ xs, SqT K H p xs ∧ k = !xs.isEmpty) ∨ ∃ kvs, H p = some (.dK kvs) ∧ k = !kvs.isEmpty
  | _ => False
theorem isEmpty_kv {κ : Type} {kvs : List (κ × V)} {vs : List (κ × Value)} (r : KV kvs vs) : (!vs.isEmpty) = !kvs.isEmpty := by
  cases r <;> rfl
theorem isEmpty_of {xs : List V} {its : List Value} (r : Vals xs its) : (!its.toArray.isEmpty) = !xs.isEmpty := by
  cases r <;> simp
theorem line63 : (sizeLine : Nat) < 2 ^ 63 := by rw [sizeLine_eq]; decide
theorem tru_ok : TruR X (fun x H Q => ∃ k, TruV X.K x H k ∧ Q k H) := by
  intro pins s σ H x v Q I rx h
  obtain ⟨k, e, q⟩ := h
  have hl := line63
  have hs : sizeLine = 16777216 := sizeLine_eq
  cases x with
  | non =>
    cases rx
    have e' : k = false := e
    subst e'
    exact truthy_none ⟨H, I, q⟩
  | bl b =>
    cases rx
    have e' : k = b := e
    subst e'
    exact wpAny_truthy_bool ⟨H, I, q⟩
  | int i =>
    obtain ⟨t, rfl⟩ := rx
    have e' : k = (i != 0) := e
    subst e'
    exact PySem.P.truthy_int ⟨H, I, q⟩
  | str y =>
    obtain ⟨t, rfl⟩ := rx
    obtain ⟨hy, e'⟩ : y.length ≤ sizeLine ∧ k = ((y.length : Int) != 0) := e
    subst e'
    exact PySem.P.truthy_str (by omega) ⟨H, I.tok _, q⟩
  | byt y =>
    obtain ⟨t, rfl⟩ := rx
    obtain ⟨hy, e'⟩ : y.size ≤ sizeLine ∧ k = ((y.size : Int) != 0) := e
    subst e'
    exact PySem.W.truthy_bytes (by omega) ⟨H, I.tok _, q⟩
  | ref p =>
    cases rx
    have e' : (∃ xs, SqL X.K H p xs ∧ k = !xs.isEmpty) ∨ (∃ xs, SqT X.K H p xs ∧ k = !xs.isEmpty) ∨ ∃ kvs, H p = some (.dK kvs) ∧ k = !kvs.isEmpty := e
    rcases e' with ⟨xs, hx, e'⟩ | ⟨xs, hx, e'⟩ | ⟨kvs, hx, e'⟩
    · subst e'
      obtain ⟨its, r, pl, hz⟩ := I.list hx
      have hlen := r.length
      exact wpAny_truthy_list pl.isList (by simp only [List.size_toArray]; omega) ⟨H, I.tok _, by rw [isEmpty_of r]; exact q⟩
    · subst e'
      obtain ⟨its, r, pl, hz⟩ := I.tuple hx
      have hlen := r.length
      exact truthy_tuple pl (by simp only [List.size_toArray]; omega) ⟨H, I.tok _, by rw [isEmpty_of r]; exact q⟩
    · subst e'
      obtain ⟨hz, hS, vs, r, m⟩ : kvs.length ≤ sizeLine ∧ (p == sysModules) = false ∧ ∃ vs, KV kvs vs ∧ s.heap.DictOf (mixKind X.prog X.w) p vs := I.hok p _ hx
      have hlen : kvs.length = vs.length := Paired.length r
      exact wpAny_truthy_dict hS m (by omega) ⟨H, I.tok _, by rw [isEmpty_kv r]; exact q⟩
  | _ => exact (show False from e).elim
theorem pt_truth (ha : PE X a ta) (he : ∀ whole, isTrue a X.env whole = (do let v ← whole; standAt a.pos; holding [v] (truthy v))) :
    PT X a (fun σ H Q => ta σ H fun x H' => ∃ k, TruV X.K x H' k ∧ Q k H') := by
  intro pins s σ H Q I h
  exact isTrue_plain (thn (ha pins s σ H _ I h) fun v s1 ⟨x, H1, I1, r1, q1⟩ => tru_ok pins s1 σ H1 x v Q I1 r1 q1) (he _)
theorem pe_byt {x : List UInt8} {k : Nat} : PE X (.Constant (.bytes x) k pos) (fun _ H Q => Q (.byt x.toArray) H) := fun _ _ _ H _ I h => PySem.W.Constant_bytes ⟨.byt x.toArray, H, I.tok _, ⟨_, rfl⟩, h⟩
theorem op_add_str : OpR X (binaryOp .Add) (fun x y H Q => ∃ i j, x = .str i ∧ y = .str j ∧ i.length + j.length ≤ sizeLine ∧ Q (.str (i ++ j)) H) := by
  intro pins s σ H x y v u Q I rx ry h
  obtain ⟨i, j, rfl, rfl, hz, q⟩ := h
  obtain ⟨t, rfl⟩ := rx
  obtain ⟨t', rfl⟩ := ry
  exact add_str (fun t' tk => ⟨.str (i ++ j), H, I.tok _, ⟨_, rfl⟩, q⟩) hz
theorem iop_add_str : OpR X (inplaceOp .Add) (fun x y H Q => ∃ i j, x = .str i ∧ y = .str j ∧ i.length + j.length ≤ sizeLine ∧ Q (.str (i ++ j)) H) := by
  intro pins s σ H x y v u Q I rx ry h
  obtain ⟨i, j, rfl, rfl, hz, q⟩ := h
  obtain ⟨t, rfl⟩ := rx
  obtain ⟨t', rfl⟩ := ry
  exact iadd_str (fun t' tk => ⟨.str (i ++ j), H, I.tok _, ⟨_, rfl⟩, q⟩) hz
theorem op_add_byt : OpR X (binaryOp .Add) (fun x y H Q => ∃ i j, x = .byt i ∧ y = .byt j ∧ i.size + j.size ≤ 16777216 ∧ Q (.byt (i ++ j)) H) := by
  intro pins s σ H x y v u Q I rx ry h
  obtain ⟨i, j, rfl, rfl, hz, q⟩ := h
  obtain ⟨t, rfl⟩ := rx
  obtain ⟨t', rfl⟩ := ry
  exact PySem.W.KBy.add_bytes hz (fun t' tk => ⟨.byt (i ++ j), H, I.tok _, ⟨_, rfl⟩, q⟩)
def PlainIxT (b : Expr) : Prop := ∀ o i, subscripted b false o i = operate [o, i] (getItem o i)
theorem pe_item_str (ha : PE X a ta) (hb : PE X b tb) (hs : PlainIxT b) :
    PE X (.Subscript a b pos) (tOp (fun x y H Q => ∃ z i c, x = .str z ∧ y = .int i ∧ 0 ≤ i ∧ i < 2 ^ 63 ∧ i < z.length ∧ z.cps[i.toNat]? = some c ∧ Q (.str ⟨#[c]⟩) H) ta tb) := by
  intro pins s σ H Q I h
  refine Subscript_ (binT ha hb I h fun v u s2 x y H2 I2 rx ry q => ?_)
  obtain ⟨z, i, c, rfl, rfl, h0, h63, h1, hc, q⟩ := q
  obtain ⟨t, rfl⟩ := rx
  obtain ⟨t', rfl⟩ := ry
  have e : seqIndex? i z.length = some i.toNat := PySem.StrLaws.seqIndex_nonneg h0 h1
  exact tail_any (typeIs_str s2 z t) slot_str_getitem.lookup (getItem_str (c := c) (by
    have e1 : decide (i < -(2 ^ 63 : Int)) = false := decide_eq_false (by omega)
    have e2 : decide (i ≥ 2 ^ 63) = false := decide_eq_false (by omega)
    rw [e1, e2] <;> rfl) (by rw [e]; exact hc) ⟨.str ⟨#[c]⟩, H2, I2.tok _, ⟨_, rfl⟩, q⟩) (hs _ _)
theorem pe_item_byt (ha : PE X a ta) (hb : PE X b tb) (hs : PlainIxT b) :
    PE X (.Subscript a b pos) (tOp (fun x y H Q => ∃ (z : List UInt8) (i : Int), x = .byt z.toArray ∧ y = .int i ∧ z.length ≤ sizeLine ∧ 0 ≤ i ∧ i < z.length ∧ Q (.int ((z.getD i.toNat 0).toNat : Nat)) H) ta tb) := by
  intro pins s σ H Q I h
  refine Subscript_ (binT ha hb I h fun v u s2 x y H2 I2 rx ry q => ?_)
  obtain ⟨z, i, rfl, rfl, hz, h0, h1, q⟩ := q
  obtain ⟨t, rfl⟩ := rx
  obtain ⟨t', rfl⟩ := ry
  have hl : sizeLine = 16777216 := sizeLine_eq
  exact tail_any (PySem.W.typeIs_bytes s2 z.toArray t) PySem.W.FB.slot_bytes_getitem.lookup (PySem.W.getItem_bytes (by omega) h0 h1 ⟨.int ((z.getD i.toNat 0).toNat : Nat), H2, I2.tok _, ⟨_, rfl⟩, q⟩) (hs _ _)
theorem vals1 {x : V} {us : List Value} (r : Vals [x] us) : ∃ u, us = [u] ∧ RelV x u := by
  cases r with
  | cons r1 r2 => cases r2; exact ⟨_, rfl, r1⟩
theorem vals2 {x y : V} {us : List Value} (r : Vals [x, y] us) : ∃ u w', us = [u, w'] ∧ RelV x u ∧ RelV y w' := by
  cases r with
  | cons r1 r2 =>
    cases r2 with
    | cons r3 r4 => cases r4; exact ⟨_, _, rfl, r1, r3⟩
theorem call_abs : CallR X (.builtin "abs") (fun xs H Q => ∃ i, xs = [.int i] ∧ Q (.int (if i < 0 then -i else i)) H) := by
  intro pins s σ H xs us Q I r h
  obtain ⟨i, rfl, q⟩ := h
  obtain ⟨u, rfl, t, rfl⟩ := vals1 r
  exact call_abs_int fun u tk => ⟨.int (if i < 0 then -i else i), H, I.tok _, ⟨_, rfl⟩, q⟩
theorem call_max2 (hc : X.calm = true) : CallR X (.builtin "max") (fun xs H Q => ∃ i j, xs = [.int i, .int j] ∧ Q (.int (if j > i then j else i)) H) := by
  intro pins s σ H xs us Q I r h
  obtain ⟨i, j, rfl, q⟩ := h
  obtain ⟨u, w', rfl, ⟨t, rfl⟩, ⟨t', rfl⟩⟩ := vals2 r
  refine max_two_ints (I.ok.hd hc) fun h' tk k => ⟨_, H, I.kept k, ?_, q⟩
  by_cases hj : j > i
  · rw [if_pos hj, if_pos hj]; exact ⟨_, rfl⟩
  · rw [if_neg hj, if_neg hj]; exact ⟨_, rfl⟩
theorem call_min2 (hc : X.calm = true) : CallR X (.builtin "min") (fun xs H Q => ∃ i j, xs = [.int i, .int j] ∧ Q (.int (if j < i then j else i)) H) := by
  intro pins s σ H xs us Q I r h
  obtain ⟨i, j, rfl, q⟩ := h
  obtain ⟨u, w', rfl, ⟨t, rfl⟩, ⟨t', rfl⟩⟩ := vals2 r
  refine min_two_ints (I.ok.hd hc) fun h' tk k => ⟨_, H, I.kept k, ?_, q⟩
  by_cases hj : j < i
  · rw [if_pos hj, if_pos hj]; exact ⟨_, rfl⟩
  · rw [if_neg hj, if_neg hj]; exact ⟨_, rfl⟩
theorem call_int1 : CallR X (.type "int") (fun xs H Q => (∃ i, xs = [.int i] ∧ Q (.int i) H) ∨ ∃ k, xs = [.bl k] ∧ Q (.int (if k then 1 else 0)) H) := by
  intro pins s σ H xs us Q I r h
  rcases h with ⟨i, rfl, q⟩ | ⟨k, rfl, q⟩
  · obtain ⟨u, rfl, t, rfl⟩ := vals1 r
    exact call_int_int ⟨.int i, H, I, ⟨_, rfl⟩, q⟩
  · obtain ⟨u, rfl, r1⟩ := vals1 r
    cases r1
    exact call_int_bool ⟨.int (if k then 1 else 0), H, I.tok _, ⟨_, rfl⟩, q⟩
theorem call_bool1 : CallR X (.type "bool") (fun xs H Q => (∃ i, xs = [.int i] ∧ Q (.bl (i != 0)) H) ∨ ∃ k, xs = [.bl k] ∧ Q (.bl k) H) := by
  intro pins s σ H xs us Q I r h
  rcases h with ⟨i, rfl, q⟩ | ⟨k, rfl, q⟩
  · obtain ⟨u, rfl, t, rfl⟩ := vals1 r
    exact call_bool_int ⟨.bl (i != 0), H, I, rfl, q⟩
  · obtain ⟨u, rfl, r1⟩ := vals1 r
    cases r1
    exact call_bool_bool ⟨.bl k, H, I, rfl, q⟩
theorem call_str_int : CallR X (.type "str") (fun xs H Q => ∃ i, xs = [.int i] ∧ i.natAbs.log2 < 1920 ∧ Q (.str (toString i)) H) := by
  intro pins s σ H xs us Q I r h
  obtain ⟨i, rfl, hz, q⟩ := h
  obtain ⟨u, rfl, t, rfl⟩ := vals1 r
  exact PySem.P.str_of_int hz ⟨.str _, H, I.tok _, ⟨_, rfl⟩, q⟩
theorem call_ord : CallR X (.builtin "ord") (fun xs H Q => ∃ x, xs = [.str x] ∧ x.length = 1 ∧ Q (.int (x.cps.getD 0 0 : Nat)) H) := by
  intro pins s σ H xs us Q I r h
  obtain ⟨x, rfl, hz, q⟩ := h
  obtain ⟨u, rfl, t, rfl⟩ := vals1 r
  exact ord_of_one hz ⟨.int _, H, I.tok _, ⟨_, rfl⟩, q⟩
theorem call_chr : CallR X (.builtin "chr") (fun xs H Q => ∃ i, xs = [.int i] ∧ 0 ≤ i ∧ i ≤ 1114111 ∧ Q (.str ⟨#[i.toNat]⟩) H) := by
  intro pins s σ H xs us Q I r h
  obtain ⟨i, rfl, h0, h1, q⟩ := h
  obtain ⟨u, rfl, t, rfl⟩ := vals1 r
  exact chr_of_range h0 h1 ⟨.str _, H, I.tok _, ⟨_, rfl⟩, q⟩
def LenV (K : PySem.W.Frag) (x : V) (H : Hp) (n : Nat) : Prop :=
  match x with
  | .str y => y.length ≤ sizeLine ∧ n = y.length
  | .byt y => y.size ≤ sizeLine ∧ n = y.size
  | .ref p => (∃ xs, SqL K H p xs ∧ n = xs.length) ∨ ∃ xs, SqT K H p xs ∧ n = xs.length
  | _ => False
theorem call_len : CallR X (.builtin "len") (fun xs H Q => ∃ x n, xs = [x] ∧ LenV X.K x H n ∧ Q (.int n) H) := by
  intro pins s σ H xs us Q I r h
  obtain ⟨x, n, rfl, e, q⟩ := h
  obtain ⟨u, rfl, rx⟩ := vals1 r
  have hl := line63
  have hs : sizeLine = 16777216 := sizeLine_eq
  cases x with
  | str y =>
    obtain ⟨t, rfl⟩ := rx
    obtain ⟨hy, e'⟩ : y.length ≤ sizeLine ∧ n = y.length := e
    subst e'
    exact len_str (by omega) ⟨.int _, H, I.tok _, ⟨_, rfl⟩, q⟩
  | byt y =>
    obtain ⟨t, rfl⟩ := rx
    obtain ⟨hy, e'⟩ : y.size ≤ sizeLine ∧ n = y.size := e
    subst e'
    exact PySem.W.len_bytes (by omega) ⟨.int _, H, I.tok _, ⟨_, rfl⟩, q⟩
  | ref p =>
    cases rx
    have e' : (∃ xs, SqL X.K H p xs ∧ n = xs.length) ∨ ∃ xs, SqT X.K H p xs ∧ n = xs.length := e
    rcases e' with ⟨xs, hx, e'⟩ | ⟨xs, hx, e'⟩
    · subst e'
      obtain ⟨its, r', pl, hz⟩ := I.list hx
      have hlen := r'.length
      exact Calls.call_len_list pl.isList (by simp only [List.size_toArray]; omega) ⟨.int xs.length, H, I.tok _, ⟨_, by simp only [List.size_toArray]; rw [hlen]⟩, q⟩
    · subst e'
      obtain ⟨its, r', pl, hz⟩ := I.tuple hx
      have hlen := r'.length
      exact len_tuple pl (by simp only [List.size_toArray]; omega) ⟨.int xs.length, H, I.tok _, ⟨_, by simp only [List.size_toArray]; rw [hlen]⟩, q⟩
  | _ => exact (show False from e).elim
theorem call_divmod : CallR X (.builtin "divmod") (fun xs H Q => ∃ i j, xs = [.int i, .int j] ∧ CDiv i j ∧ ∀ p, H p = none → Q (.ref p) (upd H p (.tup [.int (i / j), .int (i % j)]))) := by
  intro pins s σ H xs us Q I r h
  obtain ⟨i, j, rfl, ⟨h1, h2⟩, q⟩ := h
  obtain ⟨u, w', rfl, ⟨t, rfl⟩, ⟨t', rfl⟩⟩ := vals2 r
  refine divmod_int (by omega) ?_ (.inl (PyProof.noPylong_small (by omega)))
  rw [Int.fdiv_eq_ediv_of_nonneg i (by omega), Int.fmod_eq_emod_of_nonneg i (by omega)]
  have hn : H s.heap.objs.size = none := I.hok.fresh (Nat.le_refl _)
  refine ⟨.ref s.heap.objs.size, _, ?_, rfl, q _ hn⟩
  refine I.laid (fun b o e => Heap.get?_push_of_some _ e) (Nat.le_refl _) ⟨by simp only [List.length_cons, List.length_nil]; rw [sizeLine_eq]; decide, [.int (i / j) s.toks, .int (i % j) (s.toks + 1)], .cons ⟨_, rfl⟩ (.cons ⟨_, rfl⟩ .nil), ?_⟩
  exact ⟨_, Heap.get?_push_size s.heap rfl, rfl, 0, rfl⟩
end
end L2
namespace L2
open PySem PySem.Spec PyProof.Rows
structure ObjM (h : Heap) (x dx C : Addr) (mA : Str → Option Value) : Prop where
  obj : h.get? x = some (PySem.W.instObj C dx)
  ns : h.Ns1 dx mA
  ne : dx ≠ x
theorem lookIn_ns {h : Heap} {dx : Addr} {mA : Str → Option Value} (n : h.Ns1 dx mA) : ∃ od, h.get? dx = some od ∧ ∀ name, PySem.W.lookIn name od = some (mA name) := by
  obtain ⟨o, es, ep, ho, hd, hk, _, hm⟩ := n
  refine ⟨o, ho, fun name => ?_⟩
  have e := hm name
  unfold nsFind findBy at e
  rw [← Array.find?_toList] at e
  unfold PySem.W.lookIn
  rw [hd]
  dsimp only
  split
  · rename_i y q
    rw [q] at e
    exact congrArg some e
  · rename_i q
    rw [q] at e
    have a : es.toList.any (·.refKey) = false := by
      rw [List.any_eq_false]
      intro y hy
      obtain ⟨z, t, hkey⟩ := hk y (Array.mem_toList_iff.mp hy)
      simp [DictEntry.refKey, hkey]
    have a' : ¬ es.toList.any (·.refKey) = true := by rw [a]; exact Bool.false_ne_true
    rw [if_neg a']
    exact congrArg some e
theorem ObjM.look {h : Heap} {x dx C : Addr} {mA : Str → Option Value} (I : ObjM h x dx C mA) : ∃ od, PySem.W.InstAt h x (PySem.W.instObj C dx) C (some od) ∧ ∀ name, PySem.W.lookIn name od = some (mA name) :=
  let ⟨od, ho, hl⟩ := lookIn_ns I.ns
  ⟨od, ⟨I.obj, rfl, rfl, ho⟩, hl⟩
section
variable {prog : Program} {w : World} {A : Around} {E : Value → Shared → Prop} {s : Shared} {K : PySem.W.Frag} {x dx C f : Addr} {mA : Str → Option Value} {name : Str} {v : Value}
theorem get_map {expr : Bool} {Q : Value → Shared → Prop} (X : K.In s.heap) (I : ObjM s.heap x dx C mA) (hg : PySem.W.plainGet K C name = true) (hh : PySem.W.hasDictIn K C = true)
    (ha : PySem.W.findIn K (.ref C) name = some none) (hv : mA name = some v) (hv' : PySem.W.handedIn v = true) (h : Q v { s with toks := s.toks + 1 }) :
    wpAny (model prog w) A (getAttr (.ref x) name expr) Q E s := by
  obtain ⟨od, J, hl⟩ := I.look
  exact PySem.W.get_value X J (PySem.W.plainGet_of hg).1 (PySem.W.findObj_own hh ha rfl (by rw [hl, hv])) hv' h
theorem get_const {expr : Bool} {a : Value} {Q : Value → Shared → Prop} (X : K.In s.heap) (I : ObjM s.heap x dx C mA) (hg : PySem.W.plainGet K C name = true) (hh : PySem.W.hasDictIn K C = true)
    (ha : PySem.W.findIn K (.ref C) name = some (some a)) (hn : PySem.W.specialIn K a "__get__" = some none) (hc : PySem.W.copiedNames.contains name = false) (hv : mA name = none) (hv' : PySem.W.handedIn a = true)
    (h : Q a { s with toks := s.toks + 1 }) : wpAny (model prog w) A (getAttr (.ref x) name expr) Q E s := by
  obtain ⟨od, J, hl⟩ := I.look
  exact PySem.W.get_value X J (PySem.W.plainGet_of hg).1 (PySem.W.findObj_cls hh ha hn hv' hc (by rw [hl, hv])) hv' h
theorem get_meth {pl : Sem Bool} {Q : Value × List Value → Shared → Prop} (X : K.In s.heap) (I : ObjM s.heap x dx C mA) (hg : PySem.W.plainGet K C name = true)
    (hf : PySem.W.findIn K (.ref C) name = some (some (.ref f))) (ht : PySem.W.isFn K (.ref f) = true) (hv : mA name = none) (h : Q (.ref f, [.ref x]) s) :
    wpAny (model prog w) A (getMethod (.ref x) name pl) Q E s := by
  obtain ⟨od, J, hl⟩ := I.look
  exact PySem.W.method_fn X J (PySem.W.plainGet_of hg).1 (PySem.W.plainGet_of hg).2 hf (beq_iff_eq.mp ht) (by show (PySem.W.lookIn name od).map (·.isSome) = some false; rw [hl, hv]; rfl) h
theorem set_map {ns : List Str} {Q : Unit → Shared → Prop} (X : K.In s.heap) (I : ObjM s.heap x dx C mA)
    (hs : PySem.W.findIn K (.ref C) "__setattr__" = some (some (.builtin "object.__setattr__"))) (hp : PySem.W.plainOver K C = true) (ht : PySem.W.takerIn K C name = some none) (hh : PySem.W.hasDictIn K C = true)
    (hw : PySem.Within mA ns) (hsz : ns.length ≤ sizeLine)
    (h : ∀ h', ObjM h' x dx C (fun y => if y = name then some v else mA y) → Heap.SameBut dx s.heap h' → Q () { s with heap := h', toks := s.toks + 2 }) :
    wpAny (model prog w) A (setAttr (.ref x) name v) Q E s := by
  obtain ⟨od, J, hl⟩ := I.look
  refine PySem.W.set_plain X J hs (PySem.W.osa_open (s := { s with toks := s.toks + 1 }) (r := none) X J hp ht fun b => ?_)
  obtain ⟨cd, hc, hd'⟩ := PySem.W.any_some hh
  have hx : s.heap.get? x = some ⟨.ref C, some dx, .plain, #[]⟩ := I.obj
  refine wpAny_bind (wpAny_pure (wpAny_bind (wpAny_bind (wpAny_loadPart hx (wpAny_bind (PySem.W.Looks.here (s := { s with toks := s.toks + 1 }) (PySem.W.looks_clsIn X hc) ?_))))))
  rw [hd']
  refine wpAny_pure (a := some dx) (wpAny_bind (wpAny_pure (wpAny_bind ?_)))
  refine wpAny_nsSet1 (s := { s with toks := s.toks + 1 }) I.ns fun h' hn2 hs2 => ?_
  obtain ⟨oD, esD, epD, hoD, hdD, hcD⟩ := hn2.count (PySem.Within.cons name v hw)
  refine wpAny_bind (wpAny_lookBehind hoD (by rw [hdD]; exact pastItsLine_dict (Nat.le_trans hcD (by rw [List.length_cons]; omega))) ?_)
  exact wpAny_pure (h _ ⟨(hs2.2 _ (Ne.symm I.ne)).trans I.obj, hn2, I.ne⟩ hs2)
theorem make_map {R : Result → Shared → Prop} {vs : List Value} {kw : List (Str × Value)} (X : K.In s.heap) (hm : PySem.W.makesIn K C = true)
    (hi : PySem.W.findIn K (.ref C) "__init__" = some (some (.ref f))) (hf : PySem.W.typeIn K (.ref f) = some (.type "function"))
    (h : codeAny (model prog w) (A.under (.builtin "type.__call__" ⟨.ref C :: vs, kw⟩)) (.call (.ref f) ⟨.ref (s.heap.objs.size + 1) :: vs, kw⟩) (PySem.W.InitBack (s.heap.objs.size + 1) R)
      { s with heap := (s.heap.push PySem.W.emptyDict).push (PySem.W.instObj C s.heap.objs.size) }) :
    codeAny (model prog w) A (.call (.ref C) ⟨vs, kw⟩) R s := by
  obtain ⟨hh, g, d, t, os⟩ := s
  exact PySem.W.make_core (PySem.W.makes_of X hm) (PySem.W.looks_findIn X hi) (fun self => PySem.W.bind_fn X self hf) (.inl rfl) h
theorem make_map0 {R : Result → Shared → Prop} (X : K.In s.heap) (hm : PySem.W.makesIn K C = true)
    (hi : PySem.W.findIn K (.ref C) "__init__" = some (some (.builtin "object.__init__")))
    (hb : ∀ self, PySem.W.Looks (model prog w) s.heap (bindSpecial (.builtin "object.__init__") self) (.builtin "object.__init__", [self]))
    (h : codeAny (model prog w) (A.under (.builtin "type.__call__" ⟨[.ref C], []⟩)) (.call (.builtin "object.__init__") ⟨[.ref (s.heap.objs.size + 1)], []⟩) (PySem.W.InitBack (s.heap.objs.size + 1) R)
      { s with heap := (s.heap.push PySem.W.emptyDict).push (PySem.W.instObj C s.heap.objs.size) }) :
    codeAny (model prog w) A (.call (.ref C) ⟨[], []⟩) R s := by
  obtain ⟨hh, g, d, t, os⟩ := s
  exact PySem.W.make_core (PySem.W.makes_of X hm) (PySem.W.looks_findIn X hi) hb (.inr ⟨rfl, rfl⟩) h
end
def putF (f : Str) (v : V) : List (Str × V) → List (Str × V)
  | [] => [(f, v)]
  | (g, x) :: r => if g = f then (g, v) :: r else (g, x) :: putF f v r
theorem lookup_putF (f g : Str) (v : V) : ∀ fs : List (Str × V), (putF f v fs).lookup g = if g = f then some v else fs.lookup g
  | [] => by
    show List.lookup g [(f, v)] = _
    by_cases h : g = f
    · have hb : (g == f) = true := beq_iff_eq.mpr h
      simp only [List.lookup, hb, if_pos h]
    · have hb : (g == f) = false := beq_eq_false_iff_ne.mpr h
      simp only [List.lookup, hb, if_neg h]
  | (k, x) :: r => by
    have ih := lookup_putF f g v r
    rw [show putF f v ((k, x) :: r) = (if k = f then (k, v) :: r else (k, x) :: putF f v r) from rfl]
    by_cases hk : k = f
    · rw [if_pos hk]
      by_cases h : g = k
      · have hb : (g == k) = true := beq_iff_eq.mpr h
        simp only [List.lookup, hb, if_pos (h.trans hk)]
      · have hb : (g == k) = false := beq_eq_false_iff_ne.mpr h
        simp only [List.lookup, hb, if_neg (fun e : g = f => h (e.trans hk.symm))]
    · rw [if_neg hk]
      by_cases h : g = k
      · have hb : (g == k) = true := beq_iff_eq.mpr h
        simp only [List.lookup, hb, if_neg (fun e : g = f => hk (h.symm.trans e))]
      · have hb : (g == k) = false := beq_eq_false_iff_ne.mpr h
        simp only [List.lookup, hb]
        exact ih
theorem keys_putF (f : Str) (v : V) : ∀ fs : List (Str × V), f ∈ (putF f v fs).map (·.1) ∧ ∀ g, g ∈ fs.map (·.1) → g ∈ (putF f v fs).map (·.1)
  | [] => ⟨by simp [putF], fun g h => by simp at h⟩
  | (k, x) :: r => by
    obtain ⟨i1, i2⟩ := keys_putF f v r
    rw [show putF f v ((k, x) :: r) = (if k = f then (k, v) :: r else (k, x) :: putF f v r) from rfl]
    by_cases hk : k = f
    · rw [if_pos hk]
      subst hk
      exact ⟨by simp, fun g h => by simpa using h⟩
    · rw [if_neg hk]
      refine ⟨?_, fun g h => ?_⟩
      · rw [List.map_cons]
        exact List.mem_cons_of_mem _ i1
      · rw [List.map_cons] at h ⊢
        rcases List.mem_cons.mp h with e | e
        · exact List.mem_cons.mpr (.inl e)
        · exact List.mem_cons_of_mem _ (i2 g e)
theorem length_putF (f : Str) (v : V) : ∀ fs : List (Str × V), (putF f v fs).length ≤ fs.length + 1
  | [] => by simp [putF]
  | (k, x) :: r => by
    have ih := length_putF f v r
    rw [show putF f v ((k, x) :: r) = (if k = f then (k, v) :: r else (k, x) :: putF f v r) from rfl]
    by_cases hk : k = f
    · rw [if_pos hk, List.length_cons, List.length_cons]; omega
    · rw [if_neg hk, List.length_cons, List.length_cons]; omega
theorem RelO.some_of {v : V} {o : Option Value} (r : RelO (some v) o) : ∃ u, o = some u ∧ RelV v u := by
  cases o with
  | none => exact (show False from r).elim
  | some u => exact ⟨u, rfl, r⟩
theorem RelO.none_of {o : Option Value} (r : RelO none o) : o = none := by
  cases o with
  | none => rfl
  | some u => exact (show False from r).elim
theorem handed_of {v : V} {u : Value} (r : RelV v u) : PySem.W.handedIn u = true := by
  cases v with
  | non => cases (show u = Value.none from r); rfl
  | bl b => cases (show u = Value.bool b from r); rfl
  | int i => obtain ⟨t, e⟩ := (show ∃ t, u = Value.int i t from r); cases e; rfl
  | str x => obtain ⟨t, e⟩ := (show ∃ t, u = Value.str x t from r); cases e; rfl
  | byt b => obtain ⟨t, e⟩ := (show ∃ t, u = Value.bytes b t from r); cases e; rfl
  | flt b => obtain ⟨t, e⟩ := (show ∃ t, u = Value.float b t from r); cases e; rfl
  | ref a => cases (show u = Value.ref a from r); rfl
  | ty n => cases (show u = Value.type n from r); rfl
section
variable {P : Program} {w : World} {H H' : Hp} {h h' : Heap} {a C dx : Addr} {fs fs' : List (Str × V)}
theorem ins_get (hok : HOk P w H h) (e : H a = some (.ins C dx fs)) : ∃ mA, ObjM h a dx C mA ∧ (∀ f, RelO (fs.lookup f) (mA f)) ∧ PySem.Within mA (fs.map (·.1)) ∧ fs.length ≤ 1000 ∧ H dx = some (.own a) := by
  obtain ⟨d, z, ne, ob, mA, n, r, q⟩ := (show ObjOk P w H h a (.ins C dx fs) from hok a _ e)
  exact ⟨mA, ⟨ob, n, ne⟩, r, q, z, d⟩
end
structure Cls (K : PySem.W.Frag) (C : Addr) : Prop where
  pg : PySem.W.plainGet K C Str.empty = true
  hd : PySem.W.hasDictIn K C = true
  po : PySem.W.plainOver K C = true
  sa : PySem.W.findIn K (.ref C) "__setattr__" = some (some (.builtin "object.__setattr__"))
theorem Cls.get {K : PySem.W.Frag} {C : Addr} (c : Cls K C) (f : Str) : PySem.W.plainGet K C f = true := c.pg
def NoAttr (K : PySem.W.Frag) (C : Addr) (f : Str) : Prop := PySem.W.findIn K (.ref C) f = some none
theorem NoAttr.taker {K : PySem.W.Frag} {C : Addr} {f : Str} (n : NoAttr K C f) : PySem.W.takerIn K C f = some none := by
  unfold PySem.W.takerIn
  rw [show PySem.W.findIn K (.ref C) f = some none from n]
  rfl
structure Con (K : PySem.W.Frag) (C : Addr) (f : Str) (v : V) (u : Value) : Prop where
  at_ : PySem.W.findIn K (.ref C) f = some (some u)
  rel : RelV v u
  get : PySem.W.specialIn K u "__get__" = some none
  cp : PySem.W.copiedNames.contains f = false
structure Meth (K : PySem.W.Frag) (C : Addr) (m : Str) (f : Addr) : Prop where
  at_ : PySem.W.findIn K (.ref C) m = some (some (.ref f))
  fn : PySem.W.isFn K (.ref f) = true
  kp : PySem.W.keepIn K (.ref f) = true
section
variable {X : Cx} {pins : List (Addr × Obj)} {σ : St} {H : Hp} {s : Shared} {a C dx : Addr} {fs : List (Str × V)} {f : Str} {v : V} {A : Around} {E : Value → Shared → Prop}
theorem getattr_ok {b : Bool} {Q : Value → Shared → Prop} (I : Inv X pins σ H s) (e : H a = some (.ins C dx fs)) (c : Cls X.K C) (n : NoAttr X.K C f) (l : fs.lookup f = some v)
    (h : ∀ u s', Inv X pins σ H s' → RelV v u → Q u s') : wpAny (model X.prog X.w) A (getAttr (.ref a) f b) Q E s := by
  obtain ⟨mA, O, r, _, _, _⟩ := ins_get I.hok e
  obtain ⟨u, hu, ru⟩ := RelO.some_of (v := v) (o := mA f) (by rw [← l]; exact r f)
  exact get_map I.kIn O (c.get f) c.hd n hu (handed_of ru) (h u _ (I.tok _) ru)
theorem getcon_ok {b : Bool} {u : Value} {Q : Value → Shared → Prop} (I : Inv X pins σ H s) (e : H a = some (.ins C dx fs)) (c : Cls X.K C) (k : Con X.K C f v u) (l : fs.lookup f = none)
    (h : ∀ s', Inv X pins σ H s' → Q u s') : wpAny (model X.prog X.w) A (getAttr (.ref a) f b) Q E s := by
  obtain ⟨mA, O, r, _, _, _⟩ := ins_get I.hok e
  have hn : mA f = none := RelO.none_of (by rw [← l]; exact r f)
  exact get_const I.kIn O (c.get f) c.hd k.at_ k.get k.cp hn (handed_of k.rel) (h _ (I.tok _))
theorem getmeth_ok {m : Str} {g : Addr} {pl : Sem Bool} {Q : Value × List Value → Shared → Prop} (I : Inv X pins σ H s) (e : H a = some (.ins C dx fs)) (c : Cls X.K C) (k : Meth X.K C m g) (l : fs.lookup m = none)
    (h : Q (.ref g, [.ref a]) s) : wpAny (model X.prog X.w) A (getMethod (.ref a) m pl) Q E s := by
  obtain ⟨mA, O, r, _, _, _⟩ := ins_get I.hok e
  have hn : mA m = none := RelO.none_of (by rw [← l]; exact r m)
  exact get_meth I.kIn O (c.get m) k.at_ k.fn hn h
theorem setattr_ok {y : V} {u : Value} {Q : Unit → Shared → Prop} (I : Inv X pins σ H s) (e : H a = some (.ins C dx fs)) (c : Cls X.K C) (n : NoAttr X.K C f) (hl : fs.length < 1000) (ry : RelV y u)
    (h : ∀ s', Inv X pins σ (upd H a (.ins C dx (putF f y fs))) s' → Q () s') : wpAny (model X.prog X.w) A (setAttr (.ref a) f u) Q E s := by
  obtain ⟨mA, O, r, wi, _, ho⟩ := ins_get I.hok e
  have hz : (fs.map (·.1)).length ≤ sizeLine := by rw [List.length_map, sizeLine_eq]; omega
  refine set_map I.kIn O c.sa c.po n.taker c.hd wi hz fun h' O' sb => h _ ?_
  have hd : ∃ o, h'.get? dx = some o := let ⟨o, _, _, e', _⟩ := O'.ns; ⟨o, e'⟩
  refine I.write (x := a) (e := dx) (by rw [e]; exact True.intro) (.inr ho) (fun b q hb z => (sb.2 b hb).trans z) hd ?_
  refine ⟨by rw [upd_ne O.ne]; exact ho, ?_, O.ne, O'.obj, _, O'.ns, fun g => ?_, fun g hg => ?_⟩
  · have := length_putF f y fs; omega
  · show RelO ((putF f y fs).lookup g) (if g = f then some u else mA g)
    rw [lookup_putF]
    by_cases q : g = f
    · rw [if_pos q, if_pos q]; exact ry
    · rw [if_neg q, if_neg q]; exact r g
  · by_cases q : g = f
    · rw [q]; exact (keys_putF f y fs).1
    · refine (keys_putF f y fs).2 g (wi g fun z => hg ?_)
      show (if g = f then some u else mA g) = none
      rw [if_neg q]; exact z
theorem Inv.made (I : Inv X pins σ H s) : Inv X pins σ (upd (upd H s.heap.objs.size (.own (s.heap.objs.size + 1))) (s.heap.objs.size + 1) (.ins C s.heap.objs.size []))
    { s with heap := (s.heap.push PySem.W.emptyDict).push (PySem.W.instObj C s.heap.objs.size) } := by
  have e1 : (s.heap.push PySem.W.emptyDict).get? s.heap.objs.size = some PySem.W.emptyDict := Heap.get?_push_size s.heap rfl
  have e2 : ((s.heap.push PySem.W.emptyDict).push (PySem.W.instObj C s.heap.objs.size)).get? (s.heap.objs.size + 1) = some (PySem.W.instObj C s.heap.objs.size) := by
    have := Heap.get?_push_size (s.heap.push PySem.W.emptyDict) (o := PySem.W.instObj C s.heap.objs.size) rfl
    rwa [Heap.size_push] at this
  have e3 : (s.heap.push PySem.W.emptyDict).Ns s.heap.objs.size (fun _ => none) := ⟨PySem.W.emptyDict, #[], _, e1, rfl, (fun e he => absurd he (by simp)), fun _ => rfl⟩
  have I1 := I.laid (a := s.heap.objs.size) (o := .own (s.heap.objs.size + 1)) (h' := s.heap.push PySem.W.emptyDict) (t' := s.toks) (fun b u q => Heap.get?_push_of_some _ q) (Nat.le_refl _) ⟨_, e1⟩
  refine I1.laid (a := s.heap.objs.size + 1) (o := .ins C s.heap.objs.size []) (t' := s.toks) (fun b u q => Heap.get?_push_of_some _ q) (Nat.le_of_eq (Heap.size_push _ _)) ?_
  have ne : s.heap.objs.size ≠ s.heap.objs.size + 1 := Nat.ne_of_lt (Nat.lt_succ_self _)
  refine ⟨by rw [upd_ne ne, upd_same], Nat.zero_le _, ne, e2, fun _ => none, (Heap.Ns1.of_empty e3).at fun o q => Heap.get?_push_of_some _ q, fun _ => True.intro, fun y hy => absurd rfl hy⟩
theorem attr_of {prog : Program} {w : World} {env : Env} {e : Expr} {f : Str} {pos : Pos} {s : Shared} {Q : Value → Shared → Prop} (hb : attributeBase e f env (eval e env) = eval e env)
    (h : wpAny (model prog w) A (eval e env) (fun o s₁ => wpAny (model prog w) A (getAttr o f true) Q E s₁) E s) : wpAny (model prog w) A (eval (.Attribute e f pos) env) Q E s :=
  Attribute_any_ h (by rw [arm_eval_Attribute, hb])
end
def tFld (K : PySem.W.Frag) (ta : TE) (f : Str) : TE := fun σ H Q => ta σ H fun x H1 => ∃ a C dx fs v, x = .ref a ∧ H1 a = some (.ins C dx fs) ∧ Cls K C ∧ NoAttr K C f ∧ fs.lookup f = some v ∧ Q v H1
def tCon (K : PySem.W.Frag) (ta : TE) (f : Str) : TE := fun σ H Q => ta σ H fun x H1 => ∃ a C dx fs v u, x = .ref a ∧ H1 a = some (.ins C dx fs) ∧ Cls K C ∧ Con K C f v u ∧ fs.lookup f = none ∧ Q v H1
def sFld (K : PySem.W.Frag) (ta tv : TE) (f : Str) : TS := fun D σ H => tv σ H fun y H1 => ta σ H1 fun x H2 => ∃ a C dx fs, x = .ref a ∧ H2 a = some (.ins C dx fs) ∧ Cls K C ∧ NoAttr K C f ∧ fs.length < 1000 ∧
  D.nx σ (upd H2 a (.ins C dx (putF f y fs)))
def InOp (X : Cx) (op : Operator) (rd : V → V → Hp → VK → Prop) : Prop :=
  ∀ (pins : List (Addr × Obj)) (s : Shared) (σ : St) (H : Hp) (x y : V) (u v : Value) (Q : VK), Inv X pins σ H s → RelV x u → RelV y v → rd x y H Q → wpAny (model X.prog X.w) X.A (inplaceOp op u v) (EP X pins σ Q) X.xe s
def sFldAug (K : PySem.W.Frag) (ta tv : TE) (rd : V → V → Hp → VK → Prop) (f : Str) : TS := fun D σ H => ta σ H fun x H1 => ∃ a C dx fs v, x = .ref a ∧ H1 a = some (.ins C dx fs) ∧ Cls K C ∧ NoAttr K C f ∧ fs.lookup f = some v ∧
  tv σ H1 fun y H2 => rd v y H2 fun z H3 => ∃ dx' fs', H3 a = some (.ins C dx' fs') ∧ fs'.length < 1000 ∧ D.nx σ (upd H3 a (.ins C dx' (putF f z fs')))
section
variable {X : Cx} {o e value : Expr} {f : Str} {pos pos' tpos : Pos} {ta tv : TE}
theorem pe_fld (he : PE X e ta) (hb : attributeBase e f X.env (eval e X.env) = eval e X.env) : PE X (.Attribute e f pos) (tFld X.K ta f) := by
  intro pins s σ H Q I h
  refine attr_of hb (thn (he pins s σ H _ I h) fun u s1 ⟨x, H1, I1, rx, a, C, dx, fs, v, ex, ea, c, n, l, q⟩ => ?_)
  subst ex
  obtain rfl : u = Value.ref a := rx
  exact getattr_ok I1 ea c n l fun u' s2 I2 ru => ⟨v, H1, I2, ru, q⟩
theorem pe_con (he : PE X e ta) (hb : attributeBase e f X.env (eval e X.env) = eval e X.env) : PE X (.Attribute e f pos) (tCon X.K ta f) := by
  intro pins s σ H Q I h
  refine attr_of hb (thn (he pins s σ H _ I h) fun u s1 ⟨x, H1, I1, rx, a, C, dx, fs, v, u0, ex, ea, c, k, l, q⟩ => ?_)
  subst ex
  obtain rfl : u = Value.ref a := rx
  exact getcon_ok I1 ea c k l fun s2 I2 => ⟨v, H1, I2, k.rel, q⟩
theorem ps_fld (ha : PE X o ta) (hv : PE X value tv) (hs : swapsWith value (some (.Attribute o f pos')) pos.line X.env = pure false) : PS X (.Assign [.Attribute o f pos'] value pos) (sFld X.K ta tv f) := by
  intro pins s σ H D I h
  refine plainObj_wpAny_Assign_Attribute (thn (hv pins s σ H _ I h) fun u s1 ⟨y, H1, I1, ry, q⟩ => thn (ha pins s1 σ H1 _ I1 q) fun ov s2 ⟨x, H2, I2, rx, a, C, dx, fs, ex, ea, c, n, l, q2⟩ => ?_) hs
  subst ex
  obtain rfl : ov = Value.ref a := rx
  exact setattr_ok I2 ea c n l ry fun s3 I3 => ⟨σ, _, I3, q2⟩
theorem ps_fldaug {op : Operator} {rd : V → V → Hp → VK → Prop} (ha : PE X o ta) (hv : PE X value tv) (hop : InOp X op rd) : PS X (.AugAssign (.Attribute o f tpos) op value pos) (sFldAug X.K ta tv rd f) := by
  intro pins s σ H D I h
  refine wpAny_AugAssign_AttributeAny (thn (ha pins s σ H _ I h) fun ov s1 ⟨x, H1, I1, rx, a, C, dx, fs, v, ex, ea, c, n, l, q⟩ => ?_)
  subst ex
  obtain rfl : ov = Value.ref a := rx
  refine getattr_ok I1 ea c n l fun u s2 I2 ru => thn (hv pins s2 σ H1 _ I2 q) fun w3 s3 ⟨y, H2, I3, ry, q3⟩ => thn (hop pins s3 σ H2 v y u w3 _ I3 ru ry q3) fun w4 s4 ⟨z, H3, I4, rz, dx', fs', ea', l', q4⟩ => ?_
  exact setattr_ok I4 ea' c n l' rz fun s5 I5 => ⟨σ, _, I5, q4⟩
def rAdd : V → V → Hp → VK → Prop := fun x y H Q => ∃ i j, x = .int i ∧ y = .int j ∧ Q (.int (i + j)) H
def rSub : V → V → Hp → VK → Prop := fun x y H Q => ∃ i j, x = .int i ∧ y = .int j ∧ Q (.int (i - j)) H
theorem in_add : InOp X .Add rAdd := by
  rintro pins s σ H x y u v Q I rx ry ⟨i, j, rfl, rfl, q⟩
  obtain ⟨t, rfl⟩ := (show ∃ t, u = Value.int i t from rx)
  obtain ⟨t', rfl⟩ := (show ∃ t', v = Value.int j t' from ry)
  exact PyProof.Rows.iadd_int ⟨.int (i + j), H, I.tok _, ⟨_, rfl⟩, q⟩
theorem in_sub : InOp X .Sub rSub := by
  rintro pins s σ H x y u v Q I rx ry ⟨i, j, rfl, rfl, q⟩
  obtain ⟨t, rfl⟩ := (show ∃ t, u = Value.int i t from rx)
  obtain ⟨t', rfl⟩ := (show ∃ t', v = Value.int j t' from ry)
  exact PyProof.Rows.isub_int ⟨.int (i - j), H, I.tok _, ⟨_, rfl⟩, q⟩
theorem methcall_of {pl : Sem Bool} {m : Str} {apos : Pos} {args : List Expr} {pins : List (Addr × Obj)} {s : Shared} {σ : St} {H : Hp} {Q : Value → Shared → Prop} {te : TE} (he : PE X e te) (I : Inv X pins σ H s)
    (h : te σ H fun x H1 => ∃ a C dx fs g, x = .ref a ∧ H1 a = some (.ins C dx fs) ∧ Cls X.K C ∧ Meth X.K C m g ∧ fs.lookup m = none ∧
      ∀ s1, Inv X pins σ H1 s1 → wpAny (model X.prog X.w) X.A (callWith pos (.ref g) [.ref a] (backTo pos (starEach args X.env)) (backToKw pos (keywordEach [] X.env))) Q X.xe s1)
    (ht : eval (.Call (.Attribute e m apos) args [] pos) X.env = (do
      let ov ← eval e X.env
      standAt apos.atName
      let (f, first) ← holding [ov] (getMethod ov m pl)
      callWith pos f first (backTo pos (starEach args X.env)) (backToKw pos (keywordEach [] X.env)))) :
    wpAny (model X.prog X.w) X.A (eval (.Call (.Attribute e m apos) args [] pos) X.env) Q X.xe s := by
  refine PySem.W.methodCall_KW (pl := pl) (thn (he pins s σ H _ I h) fun u s1 ⟨x, H1, I1, rx, a, C, dx, fs, g, ex, ea, c, k, l, q⟩ => ?_) ht
  subst ex
  obtain rfl : u = Value.ref a := rx
  exact getmeth_ok I1 ea c k l (q s1 I1)
end
section
variable {X : Cx} {pins : List (Addr × Obj)} {σ : St} {H : Hp} {s : Shared} {A : Around} {E : Value → Shared → Prop} {Q : Value → Shared → Prop} {c : Value} {b : Bool}
inductive TyOf (K : PySem.W.Frag) (H : Hp) : V → Value → Prop where
  | non : TyOf K H .non (.type "NoneType")
  | bl (x : Bool) : TyOf K H (.bl x) (.type "bool")
  | int (i : Int) : TyOf K H (.int i) (.type "int")
  | str (x : Str) : TyOf K H (.str x) (.type "str")
  | flt (x : UInt64) : TyOf K H (.flt x) (.type "float")
  | lst {a : Addr} {xs : List V} (e : H a = some (.lst xs)) : TyOf K H (.ref a) (.type "list")
  | frz {a : Addr} {o : Obj} {xs : List V} (e : H a = some (.frz o (.lst xs))) : TyOf K H (.ref a) (.type "list")
  | tup {a : Addr} {xs : List V} (e : H a = some (.tup xs)) : TyOf K H (.ref a) (.type "tuple")
  | dK {a : Addr} {kvs : List (Key × V)} (e : H a = some (.dK kvs)) : TyOf K H (.ref a) (.type "dict")
  | dT {a : Addr} {kvs : List (List Key × V)} (e : H a = some (.dT kvs)) : TyOf K H (.ref a) (.type "dict")
  | ins {a C dx : Addr} {fs : List (Str × V)} (e : H a = some (.ins C dx fs)) (cl : Cls K C) (ha : PySem.W.findIn K (.ref C) "__class__" = some (some (.builtin "object.__class__")))
      (hn : PySem.W.specialIn K (.builtin "object.__class__") "__get__" = some (some (.builtin "getset_descriptor.__get__"))) (htk : PySem.W.takesIn K (.builtin "object.__class__") = some true)
      (hm : PySem.W.mroIn K C (.type "object") = some true) : TyOf K H (.ref a) (.ref C)
theorem isinst_ok {x : V} {u t : Value} (I : Inv X pins σ H s) (rx : RelV x u) (ty : TyOf X.K H x t) (e : PySem.W.kitOne X.K t c = some b) (h : ∀ tk, Q (.bool b) { s with toks := tk }) :
    wpAny (model X.prog X.w) A (call (.builtin "isinstance") [u, c]) Q E s := by
  cases ty with
  | non => cases (show u = Value.none from rx); exact PySem.W.kia_one PySem.W.kitx_none I.kIn True.intro e (fun z => nomatch z) h
  | bl y => cases (show u = Value.bool y from rx); exact PySem.W.kia_one PySem.W.kitx_bool I.kIn True.intro e (fun z => nomatch z) h
  | int i => obtain ⟨t, q⟩ := (show ∃ t, u = Value.int i t from rx); cases q; exact PySem.W.kia_one PySem.W.kitx_int I.kIn True.intro e (fun z => nomatch z) h
  | str y => obtain ⟨t, q⟩ := (show ∃ t, u = Value.str y t from rx); cases q; exact PySem.W.kia_one PySem.W.kitx_str I.kIn True.intro e (fun z => nomatch z) h
  | flt y => obtain ⟨t, q⟩ := (show ∃ t, u = Value.float y t from rx); cases q; exact PySem.W.kia_one PySem.W.kitx_float I.kIn True.intro e (fun z => nomatch z) h
  | @lst a xs ea =>
    cases (show u = Value.ref a from rx)
    obtain ⟨_, _, n, _, h1⟩ := (show ObjOk X.prog X.w H s.heap a (.lst xs) from I.hok a _ ea)
    exact PySem.W.kia_one PySem.W.kitx_list I.kIn ⟨_, h1, rfl⟩ e (fun z => nomatch z) h
  | @frz a ob xs ea =>
    cases (show u = Value.ref a from rx)
    obtain ⟨_, _, _, n, _, h1⟩ := (show ObjOk X.prog X.w H s.heap a (.frz ob (.lst xs)) from I.hok a _ ea)
    exact PySem.W.kia_one PySem.W.kitx_list I.kIn ⟨_, h1, rfl⟩ e (fun z => nomatch z) h
  | @tup a xs ea =>
    cases (show u = Value.ref a from rx)
    obtain ⟨_, _, _, p⟩ := (show ObjOk X.prog X.w H s.heap a (.tup xs) from I.hok a _ ea)
    obtain ⟨o, h1, h2, _⟩ := p
    exact PySem.W.kia_one PySem.W.kitx_tuple I.kIn ⟨o, h1, h2⟩ e (fun z => nomatch z) h
  | @dK a kvs ea =>
    cases (show u = Value.ref a from rx)
    obtain ⟨_, _, vs, _, p⟩ := (show ObjOk X.prog X.w H s.heap a (.dK kvs) from I.hok a _ ea)
    obtain ⟨o, es, ep, h1, h2, _⟩ := p
    exact PySem.W.kia_one PySem.W.kitx_dict I.kIn ⟨o, h1, h2.1⟩ e (fun z => nomatch z) h
  | @dT a kvs ea =>
    cases (show u = Value.ref a from rx)
    obtain ⟨_, _, xs, _, o, es, ep, h1, h2, _⟩ := (show ObjOk X.prog X.w H s.heap a (.dT kvs) from I.hok a _ ea)
    exact PySem.W.kia_one PySem.W.kitx_dict I.kIn ⟨o, h1, h2.1⟩ e (fun z => nomatch z) h
  | @ins a C dx fs ea cl ha hn htk hm =>
    cases (show u = Value.ref a from rx)
    obtain ⟨mA, O, _⟩ := ins_get I.hok ea
    obtain ⟨od, J, _⟩ := O.look
    exact PySem.W.kia_one (PySem.W.kitx_own (cl.get _) cl.hd ha hn htk hm) I.kIn J e (fun z => nomatch z) h
end
end L2
namespace L2
open PySem PySem.Spec PyProof.Rows
structure Room (k : Nat) (A : Around) : Prop where
  hd : A.handled = none
  dp : A.depth + 3 * k + 5 < recursionLimit
  un : A.units + 16 * k + 200 < cLine
theorem Room.mono {j k : Nat} {A : Around} (r : Room k A) (h : j ≤ k) : Room j A := ⟨r.hd, by have := r.dp; omega, by have := r.un; omega⟩
theorem Room.deeper {k : Nat} {A : Around} (r : Room (k + 1) A) (env : Env) : Room k (A.deeper env) :=
  ⟨r.hd, by have := r.dp; show A.depth + 1 + 3 * k + 5 < _; omega, by have := r.un; show A.units + 3 + 16 * k + 200 < _; omega⟩
theorem Room.in1 {k : Nat} {A : Around} (r : Room (k + 1) A) : Room k A.in1 :=
  ⟨r.hd, by have := r.dp; show A.depth + 3 * k + 5 < _; omega, by have := r.un; show A.units + 1 + 16 * k + 200 < _; omega⟩
theorem make_depth {A : Around} {C : Addr} {us : List Value} {kw : List (Str × Value)} : (A.under (.builtin "type.__call__" ⟨.ref C :: us, kw⟩)).depth = A.depth + 1 := by
  first | rfl | simp [Around.under, Code.weight, Code.isCreation, Code.isGuard, Code.isCaller, Code.frames, Code.isFrame, guardIds]
theorem make_units {A : Around} {C : Addr} {us : List Value} {kw : List (Str × Value)} : (A.under (.builtin "type.__call__" ⟨.ref C :: us, kw⟩)).units = A.units + 1 := by
  first | rfl | simp [Around.under, Code.cUnits, Code.frames, Code.isFrame]
theorem Room.make {k : Nat} {A : Around} (r : Room (k + 1) A) (C : Addr) (us : List Value) (kw : List (Str × Value)) : Room k (A.under (.builtin "type.__call__" ⟨.ref C :: us, kw⟩)) :=
  ⟨r.hd, by have := r.dp; rw [make_depth]; omega, by have := r.un; rw [make_units]; omega⟩
theorem Room.depth {k : Nat} {A : Around} (r : Room k A) : A.depth < recursionLimit := by have := r.dp; omega
theorem Room.units {k : Nat} {A : Around} (r : Room k A) : A.units + 64 < cLine := by have := r.un; omega
theorem Room.units0 {k : Nat} {A : Around} (r : Room k A) : A.units < cLine := by have := r.un; omega
def tNil : TA := fun _ H Q => Q [] H
def tCons (ta : TE) (tr : TA) : TA := fun σ H Q => ta σ H fun x H1 => tr σ H1 fun xs H2 => Q (x :: xs) H2
section
variable {X : Cx} {e : Expr} {es : List Expr} {te : TE} {t : TA} {pos : Pos}
theorem pa_nil : PA X [] tNil := fun _ _ _ _ H Q I h => Calls.spliced_nil ⟨[], H, I, .nil, h⟩
theorem pa_cons (ha : PE X e te) (hr : PA X es t) (hs : starEach (e :: es) X.env = (false, eval e X.env) :: starEach es X.env := by rfl) : PA X (e :: es) (tCons te t) := by
  intro pos pins s σ H Q I h
  rw [hs]
  show wpAny _ _ (spliced ((false, eval e X.env) :: backTo pos (starEach es X.env))) _ _ s
  refine Calls.spliced_cons (thn (ha pins s σ H _ I h) fun u s1 ⟨x, H1, I1, r1, q1⟩ => ?_)
  exact thn (hr pos pins s1 σ H1 _ I1 q1) fun us s2 ⟨xs, H2, I2, r2, q2⟩ => ⟨x :: xs, H2, I2, .cons r1 r2, q2⟩
def tTup (t : TA) : TE := fun σ H Q => t σ H fun xs H1 => xs.length ≤ sizeLine ∧ ∀ p, H1 p = none → Q (.ref p) (upd H1 p (.tup xs))
def tLst (t : TA) : TE := fun σ H Q => t σ H fun xs H1 => xs.length ≤ sizeLine ∧ ∀ p, H1 p = none → Q (.ref p) (upd H1 p (.lst xs))
theorem pe_tup {x1} (h : PA X es t) : PE X (.Tuple es x1 pos) (tTup t) := by
  intro pins s σ H Q I hq
  refine wpAny_Tuple_spliced (thn (h pos pins s σ H _ I hq) fun us s1 ⟨xs, H1, I1, r, z, q⟩ => ⟨by rw [← r.length]; exact z, ?_⟩)
  have hf : H1 s1.heap.objs.size = none := I1.hok.fresh (Nat.le_refl _)
  refine ⟨.ref s1.heap.objs.size, upd H1 s1.heap.objs.size (.tup xs), I1.laid (t' := s1.toks) (fun b u e => Heap.get?_push_of_some _ e) (Nat.le_refl _) ?_, rfl, q _ hf⟩
  exact ⟨z, us, r, ⟨_, Heap.get?_push_size _ rfl, rfl, _, rfl⟩⟩
theorem pe_lst (h : PA X es t) : PE X (.List es pos) (tLst t) := by
  intro pins s σ H Q I hq
  refine wpAny_List_spliced (thn (h pos pins s σ H _ I hq) fun us s1 ⟨xs, H1, I1, r, z, q⟩ => ⟨by rw [← r.length]; exact z, ?_⟩)
  have hf : H1 s1.heap.objs.size = none := I1.hok.fresh (Nat.le_refl _)
  refine ⟨.ref s1.heap.objs.size, upd H1 s1.heap.objs.size (.lst xs), I1.laid (t' := s1.toks) (fun b u e => Heap.get?_push_of_some _ e) (Nat.le_refl _) ?_, rfl, q _ hf⟩
  exact ⟨z, us, 0, r, Heap.get?_push_size _ rfl⟩
end
abbrev Sp := List V → Hp → VK → XK → Prop
abbrev CXT := List Env → Hp → Shared → XK → Value → Shared → Prop
structure Env0 (P : Program) (w : World) (K : PySem.W.Frag) (mg : Str → Option Value) (base : Heap) (A : Around) (outer : List Env) (s : Shared) (H : Hp) : Prop where
  frames : A.frames = some outer
  mod : Mod K mg base
  bs : ∀ b o, base.get? b = some o → s.heap.get? b = some o ∧ H b = none
  bsz : base.objs.size ≤ s.heap.objs.size
  funs : s.heap.FunFrames base outer
  frf : ∀ b ∈ frs outer, H b = none
  hok : HOk P w H s.heap
  bare : AllBare s.gens
def CE (outer : List Env) (P : Program) (w : World) (H : Hp) (s : Shared) (Q : VK) (u : Value) (s' : Shared) : Prop :=
  ∃ v H', s'.os = s.os ∧ AllBare s'.gens ∧ Un (frs outer) [] H H' s.heap s'.heap ∧ HOk P w H' s'.heap ∧ RelV v u ∧ Q v H'
def CR (CX : CXT) (outer : List Env) (P : Program) (w : World) (H : Hp) (s : Shared) (Q : VK) (E : XK) (r : Result) (s' : Shared) : Prop :=
  match r with
  | .ok (.ret u) => CE outer P w H s Q u s'
  | .ok _ => False
  | .error e => CX outer H s E e s'
structure FnOk (P : Program) (w : World) (K : PySem.W.Frag) (mg : Str → Option Value) (base : Heap) (CX : CXT) (k : Nat) (f : Addr) (fd : FuncData) (ps : List Str) (sp : Sp) : Prop where
  len : ∀ vs H Q E, sp vs H Q E → vs.length = ps.length
  run : ∀ (A : Around) (outer : List Env) (s : Shared) (H : Hp) (args : Args) (us : List Value) (vs : List V) (Q : VK) (E : XK), Room k A → Env0 P w K mg base A outer s H → BindsTo s fd args (ps.zip us) → Vals vs us → sp vs H Q E →
    codeAny (model P w) A (.call (.ref f) args) (CR CX outer P w H s Q E) s
theorem FnOk.mono {P : Program} {w : World} {K : PySem.W.Frag} {mg : Str → Option Value} {base : Heap} {CX : CXT} {j k : Nat} {f : Addr} {fd : FuncData} {ps : List Str} {sp : Sp} (F : FnOk P w K mg base CX j f fd ps sp) (h : j ≤ k) :
    FnOk P w K mg base CX k f fd ps sp := ⟨F.len, fun A outer s H args us vs Q E hr => F.run A outer s H args us vs Q E (hr.mono h)⟩
theorem FnOk.imp {P : Program} {w : World} {K : PySem.W.Frag} {mg : Str → Option Value} {base : Heap} {CX : CXT} {k : Nat} {f : Addr} {fd : FuncData} {ps : List Str} {sp sp' : Sp} (F : FnOk P w K mg base CX k f fd ps sp)
    (h : ∀ vs H Q E, sp' vs H Q E → sp vs H Q E) : FnOk P w K mg base CX k f fd ps sp' :=
  ⟨fun vs H Q E q => F.len vs H Q E (h _ _ _ _ q), fun A outer s H args us vs Q E hr he hb hv hs => F.run A outer s H args us vs Q E hr he hb hv (h _ _ _ _ hs)⟩
theorem Env0.make {P : Program} {w : World} {K : PySem.W.Frag} {mg : Str → Option Value} {base : Heap} {A : Around} {outer : List Env} {s : Shared} {H : Hp} (e : Env0 P w K mg base A outer s H) (C : Addr) (us : List Value) (kw : List (Str × Value)) :
    Env0 P w K mg base (A.under (.builtin "type.__call__" ⟨.ref C :: us, kw⟩)) outer s H := ⟨by first | exact e.frames | (simpa [Around.under, Code.envs, Code.isFrame, pushEnvs] using e.frames), e.mod, e.bs, e.bsz, e.funs, e.frf, e.hok, e.bare⟩
theorem Env0.in1 {P : Program} {w : World} {K : PySem.W.Frag} {mg : Str → Option Value} {base : Heap} {A : Around} {outer : List Env} {s : Shared} {H : Hp} (e : Env0 P w K mg base A outer s H) :
    Env0 P w K mg base A.in1 outer s H := ⟨e.frames, e.mod, e.bs, e.bsz, e.funs, e.frf, e.hok, e.bare⟩
section
variable {X : Cx} {pins : List (Addr × Obj)} {σ : St} {H : Hp} {s s' : Shared}
theorem Inv.env0 (I : Inv X pins σ H s) : Env0 X.prog X.w X.K X.mg X.base X.A X.stack s H :=
  ⟨I.ok.frames, I.ok.mod, I.bs, Nat.le_trans I.ok.bsz I.sz, I.stack, I.stkFree, I.hok, I.bare⟩
theorem Inv.after {Q : VK} {u : Value} (I : Inv X pins σ H s) (h : CE X.stack X.prog X.w H s Q u s') : EP X pins σ Q u s' := by
  obtain ⟨v, H', os, bare, un, hok, r, q⟩ := h
  obtain ⟨hh, g, d, t, os'⟩ := s'
  obtain rfl : os' = s.os := os
  exact ⟨v, H', I.call (h' := hh) (g' := g) (d' := d) (t' := t) (ch := []) un hok bare (fun b z => absurd z (by simp)), r, q⟩
end
def tCall (sp : Sp) (dvs : List V) (E : XK) (t : TA) : TE := fun σ H Q => t σ H fun vs H1 => sp (vs ++ dvs) H1 Q E
def tMeth (C : Addr) (m : Str) (sp : Sp) (dvs : List V) (E : XK) (ta : TE) (t : TA) : TE := fun σ H Q => ta σ H fun x H1 => ∃ a dx fs, x = .ref a ∧ H1 a = some (.ins C dx fs) ∧ fs.lookup m = none ∧
  t σ H1 fun vs H2 => sp (x :: (vs ++ dvs)) H2 Q E
def tMake (C : Addr) (sp : Sp) (dvs : List V) (E : XK) (t : TA) : TE := fun σ H Q => t σ H fun vs H1 => ∀ x dx, H1 x = none → H1 dx = none → dx ≠ x →
  sp (.ref x :: (vs ++ dvs)) (upd (upd H1 dx (.own x)) x (.ins C dx [])) (fun v H2 => v = .non ∧ Q (.ref x) H2) E
def Binds (K : PySem.W.Frag) (fd : FuncData) (ps : List Str) (ds : List Value) : Prop :=
  ∀ (s : Shared) (us : List Value), K.In s.heap → (us ++ ds).length = ps.length → BindsTo s fd ⟨us, []⟩ (ps.zip (us ++ ds))
theorem Binds.all {K : PySem.W.Frag} {fd : FuncData} {ps : List Str} (h : ∀ us : List Value, us.length = ps.length → bindArgs fd ⟨us, []⟩ = pure (ps.zip us)) : Binds K fd ps [] := fun s us _ hl => by
  rw [List.append_nil] at hl ⊢
  exact .of_eq (h us hl)
def Passes (CX : CXT) (X : Cx) (E : XK) : Prop := ∀ (pins : List (Addr × Obj)) (σ : St) (H : Hp) (s : Shared) (e : Value) (s' : Shared), Inv X pins σ H s → CX X.stack H s E e s' → X.xe e s'
section
variable {X : Cx} {CX : CXT} {k : Nat} {f C : Addr} {fd : FuncData} {ps : List Str} {sp : Sp} {dvs : List V} {ds : List Value} {E : XK} {x m : Str} {p pos apos : Pos} {e o : Expr} {es : List Expr} {ta : TE} {t : TA}
theorem run_fn {pins : List (Addr × Obj)} {σ : St} {H : Hp} {s : Shared} {Q : VK} {us : List Value} {vs : List V} (F : FnOk X.prog X.w X.K X.mg X.base CX k f fd ps sp) (hr : Room k X.A) (hb : Binds X.K fd ps ds) (hd : Vals dvs ds) (hx : Passes CX X E)
    (I : Inv X pins σ H s) (r : Vals vs us) (h : sp (vs ++ dvs) H Q E) : wpAny (model X.prog X.w) X.A (call (.ref f) us) (EP X pins σ Q) X.xe s := by
  have r2 : Vals (vs ++ dvs) (us ++ ds) := r.append hd
  have hl : (us ++ ds).length = ps.length := by rw [← r2.length]; exact F.len _ _ _ _ h
  refine wpAny_call (codeAny_mono (F.run X.A X.stack s H ⟨us, []⟩ (us ++ ds) (vs ++ dvs) Q E hr I.env0 (hb s us I.kIn hl) r2 h) fun r s' hq => ?_)
  cases r with
  | error e => exact hx pins σ H s e s' I hq
  | ok fl =>
    cases fl with
    | ret u => exact I.after hq
    | next => exact False.elim hq
    | brk => exact False.elim hq
    | cont => exact False.elim hq
theorem pe_call (F : FnOk X.prog X.w X.K X.mg X.base CX k f fd ps sp) (hr : Room k X.A) (hg : Gl X x) (hm : X.mg x = some (.ref f)) (hk : PySem.W.keepIn X.K (.ref f) = true) (hb : Binds X.K fd ps ds) (hd : Vals dvs ds) (hx : Passes CX X E)
    (ha : PA X (e :: es) t) (hdb : (x == ("__debug__" : Str)) = false := by decide) (he : starEach (e :: es) X.env = (false, eval e X.env) :: starEach es X.env := by rfl) (hpl : (backTo pos (starEach es X.env)).any (·.1) = false := by rfl) :
    PE X (.Call (.Name x p) (e :: es) [] pos) (tCall sp dvs E t) := by
  intro pins s σ H Q I h
  refine wpAny_Call_Name_kw (ld_glob I hg hm ?_ hdb)
  refine PySem.W.callWith_K (h₀ := X.base) I.ok.mod.kin hk (thn (ha pos pins s σ H _ I h) fun us s1 ⟨vs, H1, I1, r, q⟩ => ⟨I1.kIn, ?_⟩) he hpl
  exact run_fn F hr hb hd hx I1 r q
theorem pe_call0 (F : FnOk X.prog X.w X.K X.mg X.base CX k f fd ps sp) (hr : Room k X.A) (hg : Gl X x) (hm : X.mg x = some (.ref f)) (hk : PySem.W.keepIn X.K (.ref f) = true) (hb : Binds X.K fd ps ds) (hd : Vals dvs ds) (hx : Passes CX X E)
    (hdb : (x == ("__debug__" : Str)) = false := by decide) : PE X (.Call (.Name x p) [] [] pos) (tCall sp dvs E tNil) := by
  intro pins s σ H Q I h
  refine wpAny_Call_Name_kw (ld_glob I hg hm ?_ hdb)
  exact PySem.W.callWith_K0 I.kIn hk (run_fn (us := []) F hr hb hd hx I .nil h)
theorem pe_meth {pl : Sem Bool} (he : PE X o ta) (c : Cls X.K C) (hm : Meth X.K C m f) (F : FnOk X.prog X.w X.K X.mg X.base CX k f fd ps sp) (hr : Room k X.A) (hb : Binds X.K fd ps ds) (hd : Vals dvs ds) (hx : Passes CX X E) (ha : PA X (e :: es) t)
    (hst : starEach (e :: es) X.env = (false, eval e X.env) :: starEach es X.env := by rfl) (hpl : (backTo pos (starEach es X.env)).any (·.1) = false := by rfl)
    (ht : eval (.Call (.Attribute o m apos) (e :: es) [] pos) X.env = (do
      let ov ← eval o X.env
      standAt apos.atName
      let (f, first) ← holding [ov] (getMethod ov m pl)
      callWith pos f first (backTo pos (starEach (e :: es) X.env)) (backToKw pos (keywordEach [] X.env))) := by rfl) :
    PE X (.Call (.Attribute o m apos) (e :: es) [] pos) (tMeth C m sp dvs E ta t) := by
  intro pins s σ H Q I h
  refine PySem.W.methodCall_KW (pl := pl) (thn (he pins s σ H _ I h) fun u s1 ⟨x, H1, I1, rx, a, dx, fs, ex, ea, l, q⟩ => ?_) ht
  subst ex
  obtain rfl : u = Value.ref a := rx
  refine getmeth_ok I1 ea c hm l ?_
  refine PySem.W.callWith_K (first := [.ref a]) (h₀ := X.base) I.ok.mod.kin hm.kp (thn (ha pos pins s1 σ H1 _ I1 q) fun us s2 ⟨vs, H2, I2, r, q2⟩ => ⟨I2.kIn, ?_⟩) hst hpl
  exact run_fn (us := .ref a :: us) (vs := .ref a :: vs) F hr hb hd hx I2 (.cons rfl r) q2
theorem pe_meth0 {pl : Sem Bool} (he : PE X o ta) (c : Cls X.K C) (hm : Meth X.K C m f) (F : FnOk X.prog X.w X.K X.mg X.base CX k f fd ps sp) (hr : Room k X.A) (hb : Binds X.K fd ps ds) (hd : Vals dvs ds) (hx : Passes CX X E)
    (ht : eval (.Call (.Attribute o m apos) [] [] pos) X.env = (do
      let ov ← eval o X.env
      standAt apos.atName
      let (f, first) ← holding [ov] (getMethod ov m pl)
      callWith pos f first (backTo pos (starEach [] X.env)) (backToKw pos (keywordEach [] X.env))) := by rfl) :
    PE X (.Call (.Attribute o m apos) [] [] pos) (tMeth C m sp dvs E ta tNil) := by
  intro pins s σ H Q I h
  refine PySem.W.methodCall_KW (pl := pl) (thn (he pins s σ H _ I h) fun u s1 ⟨x, H1, I1, rx, a, dx, fs, ex, ea, l, q⟩ => ?_) ht
  subst ex
  obtain rfl : u = Value.ref a := rx
  refine getmeth_ok I1 ea c hm l ?_
  exact PySem.W.callWith_K0 (first := [.ref a]) I1.kIn hm.kp (run_fn (us := [.ref a]) (vs := [.ref a]) F hr hb hd hx I1 (.cons rfl .nil) q)
structure Mk (K : PySem.W.Frag) (C f : Addr) : Prop where
  makes : PySem.W.makesIn K C = true
  init : PySem.W.findIn K (.ref C) "__init__" = some (some (.ref f))
  fn : PySem.W.isFn K (.ref f) = true
  kp : PySem.W.keepIn K (.ref C) = true
theorem run_make {pins : List (Addr × Obj)} {σ : St} {H : Hp} {s : Shared} {Q : VK} {us : List Value} {vs : List V} (M : Mk X.K C f) (F : FnOk X.prog X.w X.K X.mg X.base CX k f fd ps sp) (hr : Room (k + 1) X.A) (hb : Binds X.K fd ps ds) (hd : Vals dvs ds)
    (hx : Passes CX X E) (I : Inv X pins σ H s) (r : Vals vs us)
    (h : ∀ x dx, H x = none → H dx = none → dx ≠ x → sp (.ref x :: (vs ++ dvs)) (upd (upd H dx (.own x)) x (.ins C dx [])) (fun v H2 => v = .non ∧ Q (.ref x) H2) E) :
    wpAny (model X.prog X.w) X.A (call (.ref C) us) (EP X pins σ Q) X.xe s := by
  have hq := h (s.heap.objs.size + 1) s.heap.objs.size (I.hok.fresh (Nat.le_succ _)) (I.hok.fresh (Nat.le_refl _)) (Nat.ne_of_lt (Nat.lt_succ_self _))
  have I2 := Inv.made (C := C) I
  have r2 : Vals (V.ref (s.heap.objs.size + 1) :: (vs ++ dvs)) (Value.ref (s.heap.objs.size + 1) :: (us ++ ds)) := .cons rfl (r.append hd)
  have hl : (Value.ref (s.heap.objs.size + 1) :: us ++ ds).length = ps.length := by
    have e := r2.length
    rw [F.len _ _ _ _ hq] at e
    exact e.symm
  refine wpAny_call (make_map (f := f) I.kIn M.makes M.init (beq_iff_eq.mp M.fn) (codeAny_mono (F.run _ X.stack _ _ ⟨Value.ref (s.heap.objs.size + 1) :: us, []⟩ (Value.ref (s.heap.objs.size + 1) :: (us ++ ds)) _ _ E (hr.make C us [])
    (I2.env0.make C us []) (hb _ (Value.ref (s.heap.objs.size + 1) :: us) I2.kIn hl) r2 hq) fun r s' hq' => ?_))
  cases r with
  | error e => exact hx pins σ _ _ e s' I2 hq'
  | ok fl =>
    cases fl with
    | ret u =>
      obtain ⟨v, H', I3, rv, ev, q3⟩ := I2.after hq'
      subst ev
      exact ⟨rv, ⟨V.ref (s.heap.objs.size + 1), H', I3, rfl, q3⟩⟩
    | next => exact False.elim hq'
    | brk => exact False.elim hq'
    | cont => exact False.elim hq'
theorem pe_make (M : Mk X.K C f) (F : FnOk X.prog X.w X.K X.mg X.base CX k f fd ps sp) (hr : Room (k + 1) X.A) (hg : Gl X x) (hm : X.mg x = some (.ref C)) (hb : Binds X.K fd ps ds) (hd : Vals dvs ds) (hx : Passes CX X E)
    (ha : PA X (e :: es) t) (hdb : (x == ("__debug__" : Str)) = false := by decide) (he : starEach (e :: es) X.env = (false, eval e X.env) :: starEach es X.env := by rfl) (hpl : (backTo pos (starEach es X.env)).any (·.1) = false := by rfl) :
    PE X (.Call (.Name x p) (e :: es) [] pos) (tMake C sp dvs E t) := by
  intro pins s σ H Q I h
  refine wpAny_Call_Name_kw (ld_glob I hg hm ?_ hdb)
  refine PySem.W.callWith_K (h₀ := X.base) I.ok.mod.kin M.kp (thn (ha pos pins s σ H _ I h) fun us s1 ⟨vs, H1, I1, r, q⟩ => ⟨I1.kIn, ?_⟩) he hpl
  exact run_make M F hr hb hd hx I1 r q
theorem pe_make0 (M : Mk X.K C f) (F : FnOk X.prog X.w X.K X.mg X.base CX k f fd ps sp) (hr : Room (k + 1) X.A) (hg : Gl X x) (hm : X.mg x = some (.ref C)) (hb : Binds X.K fd ps ds) (hd : Vals dvs ds) (hx : Passes CX X E)
    (hdb : (x == ("__debug__" : Str)) = false := by decide) : PE X (.Call (.Name x p) [] [] pos) (tMake C sp dvs E tNil) := by
  intro pins s σ H Q I h
  refine wpAny_Call_Name_kw (ld_glob I hg hm ?_ hdb)
  exact PySem.W.callWith_K0 I.kIn M.kp (run_make (us := []) M F hr hb hd hx I .nil h)
end
def PK (X : Cx) (kws : List Keyword) (t : TA) : Prop :=
  ∀ (pos : Pos) (pins : List (Addr × Obj)) (s : Shared) (σ : St) (H : Hp) (Q : List V → Hp → Prop), Inv X pins σ H s → t σ H Q → wpAny (model X.prog X.w) X.A (evalAll ((backToKw pos (keywordEach kws X.env)).map (·.2))) (AP X pins σ Q) X.xe s
section
variable {X : Cx} {CX : CXT} {k : Nat} {f C : Addr} {fd : FuncData} {ps ks : List Str} {sp : Sp} {E : XK} {x m : Str} {p pos apos kpos : Pos} {e o : Expr} {es : List Expr} {kws : List Keyword} {te ta : TE} {t tk : TA} {nm : Option Str}
theorem pk_nil : PK X [] tNil := fun _ _ _ _ H Q I h => wpAny_evalAll_nil ⟨[], H, I, .nil, h⟩
theorem pk_cons (ha : PE X e te) (hr : PK X kws t) : PK X (⟨nm, e, kpos⟩ :: kws) (tCons te t) := by
  intro pos pins s σ H Q I h
  show wpAny _ _ (evalAll ((do let v ← eval e X.env; standAt pos; pure v) :: (backToKw pos (keywordEach kws X.env)).map (·.2))) _ _ s
  refine wpAny_evalAll_cons (wpAny_bind (thn (ha pins s σ H _ I h) fun u s1 ⟨x, H1, I1, r1, q1⟩ => wpAny_bind (wpAny_standAt (wpAny_pure ?_))))
  exact thn (hr pos pins s1 σ H1 _ I1 q1) fun us s2 ⟨xs, H2, I2, r2, q2⟩ => ⟨x :: xs, H2, I2, .cons r1 r2, q2⟩
structure KBinds (K : PySem.W.Frag) (fd : FuncData) (ps ks : List Str) (g : List Value → List Value → List Value) (gV : List V → List V → List V) : Prop where
  to : ∀ (s : Shared) (us ws : List Value), K.In s.heap → (g us ws).length = ps.length → BindsTo s fd ⟨us, ks.zip ws⟩ (ps.zip (g us ws))
  rel : ∀ {vs : List V} {us : List Value} {zs : List V} {ws : List Value}, Vals vs us → Vals zs ws → Vals (gV vs zs) (g us ws)
def tCallK (sp : Sp) (gV : List V → List V → List V) (E : XK) (t tk : TA) : TE := fun σ H Q => t σ H fun vs H1 => tk σ H1 fun zs H2 => sp (gV vs zs) H2 Q E
variable {g : List Value → List Value → List Value} {gV : List V → List V → List V}
theorem run_fnk {pins : List (Addr × Obj)} {σ : St} {H : Hp} {s : Shared} {Q : VK} {us ws : List Value} {vs zs : List V} (F : FnOk X.prog X.w X.K X.mg X.base CX k f fd ps sp) (hr : Room k X.A) (hb : KBinds X.K fd ps ks g gV) (hx : Passes CX X E)
    (I : Inv X pins σ H s) (r : Vals vs us) (rz : Vals zs ws) (h : sp (gV vs zs) H Q E) : wpAny (model X.prog X.w) X.A (call (.ref f) us (ks.zip ws)) (EP X pins σ Q) X.xe s := by
  have r2 := hb.rel r rz
  have hl : (g us ws).length = ps.length := by rw [← r2.length]; exact F.len _ _ _ _ h
  refine wpAny_call (codeAny_mono (F.run X.A X.stack s H ⟨us, ks.zip ws⟩ (g us ws) (gV vs zs) Q E hr I.env0 (hb.to s us ws I.kIn hl) r2 h) fun r s' hq => ?_)
  cases r with
  | error e => exact hx pins σ H s e s' I hq
  | ok fl =>
    cases fl with
    | ret u => exact I.after hq
    | next => exact False.elim hq
    | brk => exact False.elim hq
    | cont => exact False.elim hq
theorem pe_callK (F : FnOk X.prog X.w X.K X.mg X.base CX k f fd ps sp) (hr : Room k X.A) (hg : Gl X x) (hm : X.mg x = some (.ref f)) (hk : PySem.W.keepIn X.K (.ref f) = true) (hb : KBinds X.K fd ps ks g gV) (hx : Passes CX X E)
    (ha : PA X (e :: es) t) (hkw : PK X kws tk) (hall : (backToKw pos (keywordEach kws X.env)).all (·.1.isSome) = true := by rfl) (hks : (backToKw pos (keywordEach kws X.env)).filterMap (·.1) = ks := by rfl)
    (hdb : (x == ("__debug__" : Str)) = false := by decide) (he : starEach (e :: es) X.env = (false, eval e X.env) :: starEach es X.env := by rfl)
    (hpl : ((backTo pos (starEach (e :: es) X.env)).any (·.1) || (backToKw pos (keywordEach kws X.env)).any (·.1.isNone)) = false := by rfl) :
    PE X (.Call (.Name x p) (e :: es) kws pos) (tCallK sp gV E t tk) := by
  intro pins s σ H Q I h
  refine wpAny_Call_Name_kw (ld_glob I hg hm ?_ hdb)
  refine PySem.W.callWith_KW (h₀ := X.base) I.ok.mod.kin hk hall (thn (ha pos pins s σ H _ I h) fun us s1 ⟨vs, H1, I1, r, q⟩ => ?_) hpl he
  refine thn (hkw pos pins s1 σ H1 _ I1 q) fun ws s2 ⟨zs, H2, I2, rz, q2⟩ => ⟨I2.kIn, ?_⟩
  rw [hks]
  exact run_fnk F hr hb hx I2 r rz q2
end
structure FnScope (N P : List Str) (sc : Scope) : Prop where
  kind : sc.kind = .function
  co : sc.isCoroutine = false
  gen : sc.isGenerator = false
  nd : N.Nodup
  pre : N.take P.length = P
  par : ∀ x ∈ P, sc.names.lookup x = some .local ∨ sc.names.lookup x = some .cell
  nofree : ∀ y ∈ sc.names, y.2 ≠ .free
theorem bindL_out {kindOf : Str → Option NameKind} {x : Str} : ∀ {binds : List (Str × Value)} {m : Str → Option Value}, (∀ v, (x, v) ∉ binds) → bindL kindOf binds m x = m x
  | [], _, _ => rfl
  | (n, v) :: r, m, h => by
    unfold bindL
    rw [bindL_out fun w hw => h w (List.mem_cons_of_mem _ hw)]
    split
    · have : x ≠ n := by rintro rfl; exact h v List.mem_cons_self
      simp [this]
    · rfl
theorem bindC_out {kindOf : Str → Option NameKind} {x : Str} : ∀ {binds : List (Str × Value)} {m : Str → Option Value}, (∀ v, (x, v) ∉ binds) → bindC kindOf binds m x = m x
  | [], _, _ => rfl
  | (n, v) :: r, m, h => by
    unfold bindC
    rw [bindC_out fun w hw => h w (List.mem_cons_of_mem _ hw)]
    split
    · rfl
    · have : x ≠ n := by rintro rfl; exact h v List.mem_cons_self
      simp [this]
theorem bindL_get {kindOf : Str → Option NameKind} {x : Str} {v : Value} : ∀ {P : List Str} {vs : List Value} {i : Nat} {m : Str → Option Value}, P.Nodup → P[i]? = some x → vs[i]? = some v → kindOf x = some .local →
    bindL kindOf (P.zip vs) m x = some v
  | [], _, _, _, _, h, _, _ => by simp at h
  | _ :: _, [], _, _, _, _, h, _ => by simp at h
  | p :: P, w :: vs, 0, m, nd, h1, h2, hk => by
    simp at h1 h2; subst h1; subst h2
    show bindL kindOf ((p, w) :: P.zip vs) m p = _
    unfold bindL
    rw [bindL_out fun v hv => (List.nodup_cons.mp nd).1 (List.of_mem_zip hv).1, if_pos hk]
    simp
  | p :: P, w :: vs, i + 1, m, nd, h1, h2, hk => by
    show bindL kindOf ((p, w) :: P.zip vs) m x = _
    unfold bindL
    exact bindL_get (i := i) (List.nodup_cons.mp nd).2 (by simpa using h1) (by simpa using h2) hk
theorem bindC_get {kindOf : Str → Option NameKind} {x : Str} {v : Value} : ∀ {P : List Str} {vs : List Value} {i : Nat} {m : Str → Option Value}, P.Nodup → P[i]? = some x → vs[i]? = some v → kindOf x ≠ some .local →
    bindC kindOf (P.zip vs) m x = some v
  | [], _, _, _, _, h, _, _ => by simp at h
  | _ :: _, [], _, _, _, _, h, _ => by simp at h
  | p :: P, w :: vs, 0, m, nd, h1, h2, hk => by
    simp at h1 h2; subst h1; subst h2
    show bindC kindOf ((p, w) :: P.zip vs) m p = _
    unfold bindC
    rw [bindC_out fun v hv => (List.nodup_cons.mp nd).1 (List.of_mem_zip hv).1, if_neg hk]
    simp
  | p :: P, w :: vs, i + 1, m, nd, h1, h2, hk => by
    show bindC kindOf ((p, w) :: P.zip vs) m x = _
    unfold bindC
    exact bindC_get (i := i) (List.nodup_cons.mp nd).2 (by simpa using h1) (by simpa using h2) hk
def start (N : List Str) (vs : List V) : St := vs.map some ++ List.replicate (N.length - vs.length) none
def cxOf (CX : CXT) (P : Program) (w : World) (K : PySem.W.Frag) (mg : Str → Option Value) (base : Heap) (N : List Str) (qual : Str) (scope : Scope) (f : Addr) (cd : Value) (A : Around) (outer : List Env) (s : Shared) (H : Hp) (E : XK) : Cx where
  prog := P
  w := w
  K := K
  mg := mg
  base := base
  A := A.deeper (envOfC qual scope s.heap.objs.size f cd)
  N := N
  s₀ := s
  H₀ := H
  env := envOfC qual scope s.heap.objs.size f cd
  outer := outer
  stack := envOfC qual scope s.heap.objs.size f cd :: outer
  ex := []
  calm := true
  fn := fun _ => true
  pn := []
  xe := fun e s' => wpAny (model P w) (A.deeper (envOfC qual scope s.heap.objs.size f cd)) (leaving (envOfC qual scope s.heap.objs.size f cd) e) (fun _ s'' => CX outer H s E e s'') (fun e' s'' => CX outer H s E e' s'') s'
theorem cell_has {sc : Scope} {n : Nat} {x : Str} (h : sc.names.lookup x = some .cell) : ∃ c, (cellsFrom n sc.names []).lookup x = some c := by
  have q := PySem.W.cellsFrom_some sc.names n [] (.inl h)
  exact Option.isSome_iff_exists.mp q
theorem inv_start {CX : CXT} {P : Program} {w : World} {K : PySem.W.Frag} {mg : Str → Option Value} {base : Heap} {N ps : List Str} {qual : Str} {scope : Scope} {f : Addr} {cd : Value} {A : Around} {outer : List Env} {s s1 : Shared} {H : Hp} {E : XK} {us : List Value} {vs : List V}
    (S : FnScope N ps scope) (hd : A.handled = none) (e0 : Env0 P w K mg base A outer s H) (hl : vs.length = ps.length) (r : Vals vs us)
    (x : InCallC s s.heap.objs.size (bindL (envOfC qual scope s.heap.objs.size f cd).kindOf (ps.zip us) fun _ => none) (cellsFrom (s.heap.objs.size + 1) scope.names []) (bindC (envOfC qual scope s.heap.objs.size f cd).kindOf (ps.zip us) fun _ => none) s1) :
    Inv (cxOf CX P w K mg base N qual scope f cd A outer s H E) [] (start N vs) H s1 := by
  have hpl : ps.length ≤ N.length := by have := congrArg List.length S.pre; rw [List.length_take] at this; omega
  obtain ⟨h1, tk, rfl, hk⟩ := x.done
  have noA : ∀ b : Addr, b ∉ (cxOf CX P w K mg base N qual scope f cd A outer s H E).ex := fun b z => absurd (show b ∈ ([] : List Addr) from z) (by simp)
  refine ⟨⟨e0.mod, S.kind, rfl, rfl, Nat.le_refl _, fun y z c h1 h2 => ?_, fun y hy => ?_, fun y c _ h => ?_, fun _ => hd, Around.frames_deeper e0.frames, .inr ⟨rfl, rfl⟩, fun b z => absurd z (noA b), e0.bs, e0.bsz, fun b _ _ => noA b, fun b z => absurd z (noA b), e0.funs, e0.frf⟩,
    rfl, e0.bare, Un.kept hk, ⟨_, x.toInCall.ns, fun i y v h1 h2 h3 => ?_⟩, fun y c h => ⟨_, x.cell y c h⟩, e0.hok.fresh (Nat.le_refl _), fun y c h => ?_, fun p hp => absurd (show p ∈ ([] : List (Addr × Obj)) from hp) (by simp), e0.hok.kept hk, ?_⟩
  · exact name_of_addr x.apart (PySem.mem_of_lookup h1) (PySem.mem_of_lookup h2)
  · have hy : scope.names.lookup y = some .cell ∨ scope.names.lookup y = some .free := hy
    rcases hy with hy | hy
    · exact cell_has hy
    · exact absurd rfl (S.nofree _ (PySem.mem_of_lookup hy))
  · exact Nat.le_of_lt (x.above y c (PySem.mem_of_lookup h))
  · have hi : i < vs.length := by
      unfold start at h2
      by_cases hi : i < vs.length
      · exact hi
      · rw [List.getElem?_append_right (by simpa using hi)] at h2
        rw [List.getElem?_replicate] at h2
        split at h2 <;> cases h2
    have ha : vs[i]? = some v := by
      unfold start at h2
      rw [List.getElem?_append_left (by simpa using hi), List.getElem?_map] at h2
      cases e : vs[i]? with
      | none => rw [e] at h2; cases h2
      | some a => rw [e] at h2; cases h2; rfl
    obtain ⟨u, hu, rv⟩ := r.get ha
    have hp : ps[i]? = some y := by
      rw [← S.pre, List.getElem?_take_of_lt (by omega)]; exact h1
    have ndP : ps.Nodup := by rw [← S.pre]; exact S.nd.sublist (List.take_sublist _ _)
    refine ⟨u, rv, ?_⟩
    rcases S.par y (List.mem_of_getElem? hp) with k | k
    · exact .inl ⟨k, bindL_get ndP hp hu k⟩
    · obtain ⟨c, e⟩ := cell_has (n := s.heap.objs.size + 1) k
      refine .inr ⟨.inl k, c, e, ?_⟩
      have q := x.cell y c e
      rw [bindC_get ndP hp hu (by show scope.names.lookup y ≠ _; rw [k]; decide)] at q
      exact q
  · exact e0.hok.fresh (Nat.le_of_lt (x.above y c (PySem.mem_of_lookup h)))
  · unfold start
    show _ = N.length
    rw [List.length_append, List.length_map, List.length_replicate]
    omega
theorem fn_of {CX : CXT} {P : Program} {w : World} {K : PySem.W.Frag} {mg : Str → Option Value} {base : Heap} {k : Nat} {f : Addr} {name qual : Str} {params : Arguments} {body : List Stmt} {scope : Scope} {dV kV doc pm cdv ct oc : Value} {an od : Option Addr}
    {osl : Array (Option Value)} {N ps : List Str} {sp : Sp} (lk : K.lookup f = some ⟨oc, od, .func (PySem.W.fnOf name qual params body scope dV kV doc pm an cdv ct), osl⟩) (hcd : PySem.W.codeIn K cdv qual = true) (S : FnScope N ps scope)
    (len : ∀ vs H Q E, sp vs H Q E → vs.length = ps.length)
    (hbody : ∀ (A : Around) (outer : List Env) (s : Shared) (H : Hp) (vs : List V) (Q : VK) (E : XK), Room k (A.deeper (envOfC qual scope s.heap.objs.size f cdv)) → sp vs H Q E →
      ∃ t, PSs (cxOf CX P w K mg base N qual scope f cdv A outer s H E) body t ∧ t { nx := fun _ H' => Q .non H', rt := Q } (start N vs) H) :
    FnOk P w K mg base CX (k + 1) f (PySem.W.fnOf name qual params body scope dV kV doc pm an cdv ct) ps sp := by
  refine ⟨len, fun A outer s H args us vs Q E hr e0 hb r hsp => ?_⟩
  have hl := len _ _ _ _ hsp
  have KX : K.In s.heap := e0.mod.kin.keeps fun b o e => (e0.bs b o e).1
  have lim : s.heap.NoLimit := e0.mod.nolimit.keeps fun b o e => (e0.bs b o e).1
  have hkind : ∀ y ∈ ps.zip us, scope.names.lookup y.1 = some .local ∨ (scope.names.lookup y.1 = some .cell ∧ ((cellsFrom (s.heap.objs.size + 1) scope.names []).lookup y.1).isSome = true) := fun ⟨n, v⟩ hy => by
    rcases S.par n (List.of_mem_zip hy).1 with q | q
    · exact .inl q
    · exact .inr ⟨q, PySem.W.cellsFrom_some _ _ _ (.inl q)⟩
  refine codeAny_call_function hr.depth (KX _ _ lk) rfl S.co S.gen rfl (PySem.W.codeRec_of KX hcd) (hb _ _ _ _ ?_)
  refine wpAny_newFunctionEnv_cells S.kind hkind fun env he s1 x => ?_
  subst he
  refine ⟨lim.keeps x.toInCall.keep, codeAny_func ?_⟩
  obtain ⟨t, ht, hq⟩ := hbody A outer s H vs Q E (hr.deeper _) hsp
  have I : Inv (cxOf CX P w K mg base N qual scope f cdv A outer s H E) [] (start N vs) H s1 := inv_start S hr.hd e0 hl r x
  refine wpAny_mono (ht [] s1 (start N vs) H _ I hq) (fun fl s' hs => ?_) fun e s' hs => hs
  have fin : ∀ {σ' : St} {H' : Hp} {v : V} {u : Value}, Inv (cxOf CX P w K mg base N qual scope f cdv A outer s H E) [] σ' H' s' → RelV v u → Q v H' → CE outer P w H s Q u s' :=
    fun {σ' H' v u} J rv q => ⟨v, H', J.os, J.bare, J.base, J.hok, rv, q⟩
  cases fl with
  | ret u =>
    obtain ⟨v, σ', H', J, rv, q⟩ := hs
    exact fin J rv q
  | next =>
    obtain ⟨σ', H', J, q⟩ := hs
    exact fin (v := V.non) (u := Value.none) J rfl q
  | brk =>
    obtain ⟨_, _, _, q⟩ := hs
    exact False.elim q
  | cont =>
    obtain ⟨_, _, _, q⟩ := hs
    exact False.elim q
end L2
namespace L2
open PySem PySem.Spec PyProof.Rows
section
variable {X : Cx} {x : Str} {p pos : Pos} {e : Expr} {es : List Expr} {t : TA} {id T : String} {r : List V → Hp → VK → Prop}
def tCB (r : List V → Hp → VK → Prop) (t : TA) : TE := fun σ H Q => t σ H fun vs H1 => r vs H1 Q
theorem pe_callB (hc : CallR X (.builtin id) r) (hg : Gl X x) (hm : X.mg x = none) (hv : bootBuiltins x = some (.builtin id)) (ha : PA X (e :: es) t) (hn : x ≠ "__name__" := by decide) (hdb : (x == ("__debug__" : Str)) = false := by decide)
    (he : starEach (e :: es) X.env = (false, eval e X.env) :: starEach es X.env := by rfl) (hpl : (backTo pos (starEach es X.env)).any (·.1) = false := by rfl) : PE X (.Call (.Name x p) (e :: es) [] pos) (tCB r t) := by
  intro pins s σ H Q I h
  refine wpAny_Call_Name_kw (ld_blt I hg hm hv ?_ hn hdb)
  exact PyProof.Rows.callWith_builtin1 (thn (ha pos pins s σ H _ I h) fun us s1 ⟨vs, H1, I1, r1, q1⟩ => hc pins s1 σ H1 vs us Q I1 r1 q1) he hpl
theorem pe_callTy (hc : CallR X (.type T) r) (hg : Gl X x) (hm : X.mg x = none) (hv : bootBuiltins x = some (.type T)) (ha : PA X (e :: es) t) (hn : x ≠ "__name__" := by decide) (hdb : (x == ("__debug__" : Str)) = false := by decide)
    (he : starEach (e :: es) X.env = (false, eval e X.env) :: starEach es X.env := by rfl) (hpl : (backTo pos (starEach es X.env)).any (·.1) = false := by rfl) : PE X (.Call (.Name x p) (e :: es) [] pos) (tCB r t) := by
  intro pins s σ H Q I h
  refine wpAny_Call_Name_kw (ld_blt I hg hm hv ?_ hn hdb)
  exact PyProof.Rows.callWith_type1 (thn (ha pos pins s σ H _ I h) fun us s1 ⟨vs, H1, I1, r1, q1⟩ => hc pins s1 σ H1 vs us Q I1 r1 q1) he hpl
theorem pe_callTy0 (hc : CallR X (.type T) r) (hg : Gl X x) (hm : X.mg x = none) (hv : bootBuiltins x = some (.type T)) (hn : x ≠ "__name__" := by decide) (hdb : (x == ("__debug__" : Str)) = false := by decide) :
    PE X (.Call (.Name x p) [] [] pos) (tCB r tNil) := by
  intro pins s σ H Q I h
  refine wpAny_Call_Name_kw (ld_blt I hg hm hv ?_ hn hdb)
  exact PyProof.Rows.callWith_type0 (hc pins s σ H [] [] Q I .nil h)
end
end L2
namespace HT
open PySem PyProof.Rows
def lexLt : List Int → List Int → Bool
  | [], [] => false
  | [], _ :: _ => true
  | _ :: _, [] => false
  | x :: xs, y :: ys => if x = y then lexLt xs ys else decide (x < y)
theorem lexLt_cons (x y : Int) (xs ys : List Int) : lexLt (x :: xs) (y :: ys) = if x = y then lexLt xs ys else decide (x < y) := rfl
theorem lexLt_nil_nil : lexLt [] [] = false := rfl
theorem lexLt_nil_cons (y : Int) (ys : List Int) : lexLt [] (y :: ys) = true := rfl
theorem lexLt_cons_nil (x : Int) (xs : List Int) : lexLt (x :: xs) [] = false := rfl
theorem eqAt_int (A : Around) (s : Shared) (a : Int) (t : Tok) (c : Int) (u : Tok) : ∃ e, SeqAt.EqAt A s (.int a t) (.int c u) e ∧ (e = true ↔ a = c) :=
  ⟨(a == c), SeqAt.EqAt.int_int a t c u, by simp⟩
theorem rcLt_int (A : Around) (s : Shared) (a : Int) (t : Tok) (c : Int) (u : Tok) (prog : Program) (w : World) (E : Value → Shared → Prop) (Q : Value → Shared → Prop) (h : Q (.bool (decide (a < c))) s) :
    wpAny (model prog w) A (richCompare .Lt (.int a t) (.int c u)) Q E s :=
  (PyProof.Rows.lt_int h : wpAny (model prog w) A (compareOp .Lt (.int a t) (.int c u)) Q E s)
section
open PySem.SeqAt
open PySem.AutoSeq1 (wpAny_loadPart')
open PySem.MeetsSeq PySem.MeetsSeq2 PySem.MeetsSeq3
theorem tuple_lt_ints (l b : Addr) (items items2 : Array Value) (n n2 : Nat) (dd dd2 : Option Addr) (sl sl2 : Array (Option Value)) (ns ms : List Int) (hi : IntsAre items.toList ns) (hj : IntsAre items2.toList ms) :
    Meets (Builtin.«tuple.__lt__» ⟨[.ref l, .ref b], []⟩)
      (fun _ R s => s.heap.get? l = some { cls := .type "tuple", dict := dd, data := .seq items n, slots := sl } ∧ s.heap.get? b = some { cls := .type "tuple", dict := dd2, data := .seq items2 n2, slots := sl2 } ∧
        R (.ok (.ret (.bool (lexLt ns ms)))) s) :=
  .of_wp fun prog w A R s h => by
    obtain ⟨hp, g, d, tk, os⟩ := s; obtain ⟨hl, hb, h⟩ := h
    have f2 := AutoSeq1.sub_tuple_tuple
    have z1 : items.size = ns.length := by rw [← hi.length]; simp
    have z2 : items2.size = ms.length := by rw [← hj.length]; simp
    wp_walk using wpAny_loadPart' hl, wpAny_loadPart' hb, wpAny_forIn_list _ (fun rest b s' => b.1 = none ∧ s' = ⟨hp, g, d, tk, os⟩ ∧ ∃ (vs ws : List Value) (ns' ms' : List Int), rest = vs.zip ws ∧
      IntsAre vs ns' ∧ IntsAre ws ms' ∧ ns'.length + items2.size = ms'.length + items.size ∧ R (.ok (.ret (.bool (lexLt ns' ms')))) ⟨hp, g, d, tk, os⟩) _
    case turn =>
      rintro ⟨y, x⟩ rest b s' ⟨hb', rfl, vs, ws, ns', ms', hz, hvi, hwi, hlen, hR⟩
      cases hvi with
      | nil => rw [List.zip_nil_left] at hz; cases hz
      | cons a t hvi' =>
        cases hwi with
        | nil => rw [List.zip_nil_right] at hz; cases hz
        | cons c u hwi' =>
          rw [List.zip_cons_cons] at hz
          injection hz with hyx hrest
          injection hyx with hy hx
          subst hy hx
          rw [lexLt_cons] at hR
          simp only [List.length_cons] at hlen
          obtain ⟨e, he, hiff⟩ := eqAt_int A.in1 ⟨hp, g, d, tk, os⟩ a t c u
          refine wpAny_bind (he prog w _ _ ?_)
          cases e with
          | true =>
            rw [if_pos (hiff.mp rfl)] at hR
            wp_walk
            exact ⟨rfl, rfl, _, _, _, _, hrest, hvi', hwi', by omega, hR⟩
          | false =>
            rw [if_neg (fun q => absurd (hiff.mpr q) Bool.false_ne_true)] at hR
            have hri := rcLt_int A.in1 ⟨hp, g, d, tk, os⟩ a t c u prog w
            wp_walk using hri
            exact ⟨_, rfl, by simpa using hR⟩
    case fin =>
      rintro ⟨b1, b2⟩ s' ⟨hb', rfl, vs, ws, ns', ms', hz, hvi, hwi, hlen, hR⟩
      simp only at hb'
      subst hb'
      have hv : lexLt ns' ms' = decide (items.size < items2.size) := by
        cases hvi with
        | nil =>
          cases hwi with
          | nil =>
            simp only [List.length_nil] at hlen
            rw [lexLt_nil_nil]
            exact (decide_eq_false (by omega)).symm
          | cons c u hw =>
            simp only [List.length_nil, List.length_cons] at hlen
            rw [lexLt_nil_cons]
            exact (decide_eq_true (by omega)).symm
        | cons a t hv =>
          cases hwi with
          | nil =>
            simp only [List.length_nil, List.length_cons] at hlen
            rw [lexLt_cons_nil]
            exact (decide_eq_false (by omega)).symm
          | cons c u hw =>
            rw [List.zip_cons_cons] at hz
            cases hz
      rw [hv] at hR
      wp_walk
      exact ⟨_, rfl, by simpa [Builtin.Tuple.tupleCompareSizes] using hR⟩
    case h =>
      exact ⟨rfl, rfl, items.toList, items2.toList, ns, ms, rfl, hi, hj, by omega, h⟩
end
section
variable {prog : Program} {w : World} {A : Around} {E : Value → Shared → Prop} {s : Shared}
theorem lt_tupInts {l b : Addr} {items items2 : Array Value} {ns ms : List Int} {Q : Value → Shared → Prop} (hl : IsTup s.heap l items) (hb : IsTup s.heap b items2) (hi : IntsAre items.toList ns) (hj : IntsAre items2.toList ms)
    (hu : A.units < cLine) (h : Q (.bool (lexLt ns ms)) s) : wpAny (model prog w) A (compareOp .Lt (.ref l) (.ref b)) Q E s := by
  obtain ⟨⟨cls, dd, data, sl⟩, ho, hc, n, hd⟩ := id hl
  obtain ⟨⟨cls2, dd2, data2, sl2⟩, ho2, hc2, n2, hd2⟩ := id hb
  simp only at hc hd hc2 hd2
  subst hc hd hc2 hd2
  exact richCompare_meets_room (op := .Lt) ⟨_, ho, rfl⟩ ⟨_, ho2, rfl⟩ PySem.F.slot_tuple_lt PySem.F.entry_tuple_lt (PySem.F.args_tuple_lt_2 _ _) (tuple_lt_ints l b items items2 n n2 dd dd2 sl sl2 ns ms hi hj)
    ⟨ho, ho2, show Value.bool (lexLt ns ms) ≠ Value.notImplemented ∧ Q (.bool (lexLt ns ms)) s from ⟨(fun x => nomatch x), h⟩⟩ hu
theorem cat_tup {t b : Addr} {vs ws : List Value} {Q : Value → Shared → Prop} (ht : IsTup s.heap t vs.toArray) (hb : IsTup s.heap b ws.toArray) (hv : vs ≠ [])
    (h1 : ws = [] → Q (.ref t) s) (h2 : ws ≠ [] → Q (.ref s.heap.objs.size) { s with heap := s.heap.push { cls := .type "tuple", data := .seq (vs ++ ws).toArray } })
    (hsz : vs.length + ws.length ≤ sizeLine) : wpAny (model prog w) A (binaryOp .Add (.ref t) (.ref b)) Q E s := by
  obtain ⟨⟨cls, dd, data, sl⟩, ho, hc, n, hd⟩ := id ht
  obtain ⟨⟨cls2, dd2, data2, sl2⟩, ho2, hc2, n2, hd2⟩ := id hb
  simp only at hc hd hc2 hd2
  subst hc hd hc2 hd2
  have e : vs.toArray ++ ws.toArray = (vs ++ ws).toArray := by simp
  by_cases hw : ws = []
  · exact concat_meets ⟨_, ho, rfl⟩ ⟨_, ho2, rfl⟩ noFill_tuple_add seq_tuple_add PySem.F.slot_tuple_add PySem.F.entry_tuple_add (PySem.F.args_tuple_add_2 _ _)
      (tuple_addW1 t b vs.toArray ws.toArray n n2 dd dd2 sl sl2 (by simpa using hv) (by simp [hw])) ⟨ho, ho2, h1 hw⟩
  · refine concat_meets ⟨_, ho, rfl⟩ ⟨_, ho2, rfl⟩ noFill_tuple_add seq_tuple_add PySem.F.slot_tuple_add PySem.F.entry_tuple_add (PySem.F.args_tuple_add_2 _ _)
      (tuple_addW2 t b vs.toArray ws.toArray n n2 dd dd2 sl sl2 (by simpa using hv) (by simpa using hw) (by rw [List.size_toArray, List.size_toArray]; exact hsz)) ⟨ho, ho2, ?_⟩
    rw [e]
    exact h2 hw
def sIx (n d : Nat) : Option Int → Nat
  | none => d
  | some v => if v < 0 then (v + (n : Int)).toNat else min v.toNat n
theorem sIx_none (n d : Nat) : sIx n d none = d := rfl
theorem sIx_nat (n d k : Nat) : sIx n d (some (k : Int)) = min k n := by
  show (if (k : Int) < 0 then ((k : Int) + (n : Int)).toNat else min (k : Int).toNat n) = min k n
  rw [if_neg (by omega), Int.toNat_natCast]
theorem sIx_le (n d : Nat) (hd : d ≤ n) (o : Option Int) : sIx n d o ≤ n := by
  cases o with
  | none => exact hd
  | some v =>
    show (if v < 0 then (v + (n : Int)).toNat else min v.toNat n) ≤ n
    by_cases hv : v < 0
    · rw [if_pos hv]; omega
    · rw [if_neg hv]; exact Nat.min_le_right _ _
theorem clip_eq (v : Int) (n d : Nat) : (if v < 0 then max (v + (n : Int)) 0 else min v (n : Int)) = ((sIx n d (some v) : Nat) : Int) := by
  show (if v < 0 then max (v + (n : Int)) 0 else min v (n : Int)) = (((if v < 0 then (v + (n : Int)).toNat else min v.toNat n) : Nat) : Int)
  by_cases hv : v < 0
  · simp only [if_pos hv]; omega
  · simp only [if_neg hv]; omega
theorem adjust_gen (lo hi : Option Int) (n : Nat) : Builtin.Slice.sliceAdjust lo hi 1 (n : Int) = (((sIx n 0 lo : Nat) : Int), ((sIx n n hi : Nat) : Int)) := by
  have h1 : ¬ ((1 : Int) < 0) := by omega
  unfold Builtin.Slice.sliceAdjust
  simp only [h1, if_false]
  refine Prod.ext ?_ ?_
  · cases lo with
    | none => rfl
    | some v => exact clip_eq v n 0
  · cases hi with
    | none => rfl
    | some v => exact clip_eq v n n
theorem places_gen (i j : Nat) : Builtin.Slice.slicePlaces (i : Int) (j : Int) 1 = j - i := by
  unfold Builtin.Slice.slicePlaces
  have h1 : (1 : Int) > 0 := by omega
  simp only [h1, if_true, Int.ediv_one]
  split <;> omega
theorem slicePart_ {v : Value} {o : Option Int} {Q : Option Int → Shared → Prop} (p : IsPart v o) (h : Q o s) : wpAny (model prog w) A (Builtin.Slice.slicePartIndex v) Q E s := by
  cases p with
  | none => exact slicePart_none h
  | int i t => exact slicePart_int h
theorem sliceApplied_gen {sl : Addr} {vl vu : Value} {lo hi : Option Int} {n : Nat} {Q : Int × Int × Nat → Shared → Prop} (hs : s.heap.IsSliceOf sl vl vu .none) (pl : IsPart vl lo) (pu : IsPart vu hi)
    (h : Q (((sIx n 0 lo : Nat) : Int), 1, sIx n n hi - sIx n 0 lo) s) : wpAny (model prog w) A (Builtin.Slice.sliceApplied (.ref sl) (pure (n : Int))) Q E s := by
  obtain ⟨os, hos, hcs, hds⟩ := id hs
  unfold Builtin.Slice.sliceApplied Builtin.Slice.sliceFields
  refine wpAny_bind (wpAny_bind (wpAny_field hos hds (x := vl) rfl (wpAny_bind (wpAny_field hos hds (x := vu) rfl (wpAny_bind (wpAny_field hos hds (x := .none) rfl (wpAny_pure ?_)))))))
  refine wpAny_bind (slicePart_none ?_)
  show wpAny _ _ (if ((1 : Int) == 0) = true then _ else _) _ _ s
  rw [if_neg (by decide)]
  refine wpAny_bind (slicePart_ pl (wpAny_bind (slicePart_ pu (wpAny_bind (wpAny_pure ?_)))))
  show wpAny _ _ (match Builtin.Slice.sliceAdjust lo hi 1 (n : Int) with | (lo, hi) => pure (lo, (1 : Int), Builtin.Slice.slicePlaces lo hi 1)) _ _ s
  rw [adjust_gen lo hi n]
  show wpAny _ _ (pure (((sIx n 0 lo : Nat) : Int), (1 : Int), Builtin.Slice.slicePlaces ((sIx n 0 lo : Nat) : Int) ((sIx n n hi : Nat) : Int) 1)) _ _ s
  rw [places_gen]
  exact wpAny_pure h
theorem pick_gen (xs : Array Value) (i k : Nat) : ((List.range k).filterMap fun (m : Nat) => xs[((i : Int) + (m : Int) * 1).toNat]?).toArray = ((xs.toList.drop i).take k).toArray := by
  have e : (fun (m : Nat) => xs[((i : Int) + (m : Int) * 1).toNat]?) = fun m => xs[i + m]? := by
    funext m
    have : ((i : Int) + (m : Int) * 1).toNat = i + m := by omega
    rw [this]
  rw [e]
  have := pick_run xs i k
  rw [List.filterMap_map] at this
  have e2 : ((fun x => xs[x]?) ∘ fun x => i + x) = fun m => xs[i + m]? := rfl
  rw [e2] at this
  rw [this]
theorem getItem_tuple_cut {t sl : Addr} {items : Array Value} {vl vu : Value} {lo hi : Option Int} {Q : Value → Shared → Prop} (ht : IsTup s.heap t items) (hs : s.heap.IsSliceOf sl vl vu .none) (pl : IsPart vl lo) (pu : IsPart vu hi)
    (hw : ¬ (sIx items.size 0 lo = 0 ∧ sIx items.size items.size hi = items.size))
    (h : Q (.ref s.heap.objs.size) { s with heap := s.heap.push { cls := .type "tuple", data := .seq ((items.toList.drop (sIx items.size 0 lo)).take (sIx items.size items.size hi - sIx items.size 0 lo)).toArray } })
    (hsz : items.size ≤ sizeLine) : wpAny (model prog w) A (getItem (.ref t) (.ref sl)) Q E s := by
  have htake : sizeOk (.seq ((items.toList.drop (sIx items.size 0 lo)).take (sIx items.size items.size hi - sIx items.size 0 lo)).toArray) := by
    show ((items.toList.drop (sIx items.size 0 lo)).take (sIx items.size items.size hi - sIx items.size 0 lo)).toArray.size ≤ sizeLine
    rw [List.size_toArray, List.length_take, List.length_drop, Array.length_toList]
    omega
  have hj : sIx items.size items.size hi ≤ items.size := sIx_le _ _ (Nat.le_refl _) hi
  obtain ⟨os, hos, hcs, hds⟩ := id hs
  have hTs : s.TypeIs (.ref sl) "slice" := ⟨os, hos, hcs⟩
  unfold getItem
  try with_reducible refine wpAny_holding ?_
  first | refine wpAny_bind (wpAny_pure ?_) | skip
  refine wpAny_bind (wpAny_sequenceKey ht.typeIs (by decide) ?_)
  refine wpAny_bind (wpAny_callSpecial?_slot (name := Str.ofString "__getitem__") ht.typeIs PyProof.Rows.slot_tuple_getitem
    (wpAny_call_entry PyProof.Rows.slot_tuple_getitem ht.typeIs entry_tuple_getitem ?_ (args_tuple_getitem _ _)))
  show wpAny _ _ (Builtin.Tuple.tupleItemsOf (.ref t) >>= _) _ _ s
  refine wpAny_bind (tupleItemsOf_ ht ?_)
  refine wpAny_bind (wpAny_typeOf hTs ?_)
  rw [if_pos (by decide)]
  refine wpAny_bind (sliceApplied_gen hs pl pu ?_)
  have hno : ¬ ((((sIx items.size 0 lo : Nat) : Int) == 0 && (1 : Int) == 1 && (sIx items.size items.size hi - sIx items.size 0 lo) == items.size) = true) := by
    intro q
    rw [Bool.and_eq_true, Bool.and_eq_true] at q
    have q1 : ((sIx items.size 0 lo : Nat) : Int) = 0 := eq_of_beq q.1.1
    have q2 : sIx items.size items.size hi - sIx items.size 0 lo = items.size := eq_of_beq q.2
    exact hw ⟨by omega, by omega⟩
  show wpAny _ _ (if (((sIx items.size 0 lo : Nat) : Int) == 0 && (1 : Int) == 1 && (sIx items.size items.size hi - sIx items.size 0 lo) == items.size) = true then _ else _) _ _ s
  rw [if_neg hno, pick_gen]
  first
    | exact wpAny_bind (m := Builtin.Tuple.tupleExact _) (wpAny_newObj_type (wpAny_pure ⟨_, rfl, wpAny_pure h⟩) htake)
    | exact wpAny_bind (m := Builtin.Tuple.tupleExact _) (wpAny_newObj_type (wpAny_bind (wpAny_pure (wpAny_pure ⟨_, rfl, wpAny_pure h⟩))) htake)
    | exact wpAny_bind (wpAny_bind (m := Builtin.Tuple.tupleExact _) (wpAny_newObj_type (wpAny_pure (wpAny_pure ⟨_, rfl, wpAny_pure h⟩)) htake))
    | exact wpAny_bind (wpAny_bind (m := Builtin.Tuple.tupleExact _) (wpAny_newObj_type (wpAny_pure ⟨_, rfl, wpAny_pure h⟩) htake))
end
end HT
namespace L2
open PySem PySem.Spec PyProof.Rows
abbrev TO := St → Hp → (Option Int → Hp → Prop) → Prop
def PO (X : Cx) (e : Option Expr) (t : TO) : Prop :=
  ∀ (pins : List (Addr × Obj)) (s : Shared) (σ : St) (H : Hp) (Q : Option Int → Hp → Prop), Inv X pins σ H s → t σ H Q →
    wpAny (model X.prog X.w) X.A (evalPart e X.env) (fun u s' => ∃ o H', Inv X pins σ H' s' ∧ IsPart u o ∧ Q o H') X.xe s
def tNoPart : TO := fun _ H Q => Q none H
def tPart (t : TE) : TO := fun σ H Q => t σ H fun x H1 => ∃ i, x = .int i ∧ Q (some i) H1
theorem intsAre_of {ns : List Int} : ∀ {us : List Value}, Vals (ns.map V.int) us → IntsAre us ns := by
  induction ns with
  | nil => intro us r; rw [List.map_nil] at r; cases r; exact .nil
  | cons n ns ih =>
    intro us r
    rw [List.map_cons] at r
    cases r with
    | cons r1 r2 =>
      obtain ⟨t, e⟩ := r1
      subst e
      exact .cons n t (ih r2)
section
variable {X : Cx} {e : Expr} {te : TE} {lo hi : Option Expr} {tl th : TO} {pos p2 : Pos}
theorem po_none : PO X none tNoPart := by
  intro pins s σ H Q I h
  rw [evalPart_none]
  exact wpAny_pure ⟨none, H, I, .none, h⟩
theorem po_some (h : PE X e te) : PO X (some e) (tPart te) := by
  intro pins s σ H Q I hw
  rw [evalPart_some]
  refine thn (h pins s σ H _ I hw) fun u s1 ⟨x, H1, I1, r1, q1⟩ => ?_
  obtain ⟨i, rfl, q⟩ := q1
  obtain ⟨t, rfl⟩ := r1
  exact ⟨some i, H1, I1, .int i t, q⟩
def SlR (X : Cx) (r : V → Option Int → Option Int → Hp → VK → Prop) : Prop :=
  ∀ (pins : List (Addr × Obj)) (s : Shared) (σ : St) (H : Hp) (x : V) (v vl vu : Value) (lo hi : Option Int) (sl : Addr) (Q : VK), Inv X pins σ H s → RelV x v → s.heap.IsSliceOf sl vl vu .none → IsPart vl lo → IsPart vu hi → r x lo hi H Q →
    ∃ T id, typeLookup (.type T) "__getitem__" = pure (some (.builtin id)) ∧ s.TypeIs v T ∧ wpAny (model X.prog X.w) X.A (getItem v (.ref sl)) (EP X pins σ Q) X.xe s
theorem SlR.or {r r' : V → Option Int → Option Int → Hp → VK → Prop} (h : SlR X r) (h' : SlR X r') : SlR X (fun x lo hi H Q => r x lo hi H Q ∨ r' x lo hi H Q) := by
  intro pins s σ H x v vl vu lo hi sl Q I rx hs pl pu q
  rcases q with q | q
  · exact h pins s σ H x v vl vu lo hi sl Q I rx hs pl pu q
  · exact h' pins s σ H x v vl vu lo hi sl Q I rx hs pl pu q
def tSl (r : V → Option Int → Option Int → Hp → VK → Prop) (te : TE) (tl th : TO) : TE := fun σ H Q => te σ H fun x H1 => tl σ H1 fun l H2 => th σ H2 fun u H3 => r x l u H3 Q
theorem pe_slice {r : V → Option Int → Option Int → Hp → VK → Prop} (hr : SlR X r) (he : PE X e te) (hl : PO X lo tl) (hu : PO X hi th) : PE X (.Subscript e (.Slice lo hi none p2) pos) (tSl r te tl th) := by
  intro pins s σ H Q I h
  refine Subscript_ (thn (he pins s σ H _ I h) fun v s1 ⟨x, H1, I1, r1, q1⟩ => ?_)
  refine wpAny_Slice (thn (hl pins s1 σ H1 _ I1 q1) fun vl s2 ⟨l, H2, I2, pl, q2⟩ => thn (hu pins s2 σ H2 _ I2 q2) fun vu s3 ⟨u, H3, I3, pu, q3⟩ => ?_)
  rw [evalPart_none]
  refine wpAny_pure ?_
  have I4 : Inv X pins σ H3 { s3 with heap := s3.heap.push { cls := .type "slice", data := .fields #[vl, vu, .none] } } := I3.kept (t' := s3.toks) fun b ob q => Heap.get?_push_of_some _ q
  obtain ⟨T, id, hT, ht, hg⟩ := hr pins { s3 with heap := s3.heap.push { cls := .type "slice", data := .fields #[vl, vu, .none] } } σ H3 x v vl vu l u s3.heap.objs.size Q I4 r1 (Heap.IsSliceOf.new ..) pl pu q3
  show wpAny (model X.prog X.w) X.A (subscriptTail e (.Slice lo hi none p2) v (.ref s3.heap.objs.size)) (EP X pins σ Q) X.xe { s3 with heap := s3.heap.push { cls := .type "slice", data := .fields #[vl, vu, .none] } }
  exact tail_any (ops := [.ref s3.heap.objs.size, v]) ht hT hg (by with_unfolding_all rfl)
def cutV (xs : List V) (lo hi : Option Int) : List V := (xs.drop (HT.sIx xs.length 0 lo)).take (HT.sIx xs.length xs.length hi - HT.sIx xs.length 0 lo)
theorem cutV_length (xs : List V) (lo hi : Option Int) : (cutV xs lo hi).length ≤ xs.length := by
  unfold cutV
  rw [List.length_take, List.length_drop]
  omega
def rSlT (K : PySem.W.Frag) : V → Option Int → Option Int → Hp → VK → Prop := fun x lo hi H Q => ∃ a xs, x = .ref a ∧ SqT K H a xs ∧
  ¬ (HT.sIx xs.length 0 lo = 0 ∧ HT.sIx xs.length xs.length hi = xs.length) ∧ ∀ p, H p = none → Q (.ref p) (upd H p (.tup (cutV xs lo hi)))
theorem sl_tup : SlR X (rSlT X.K) := by
  intro pins s σ H x v vl vu lo hi sl Q I rx hs pl pu h
  obtain ⟨a, xs, rfl, hx, hw, q⟩ := h
  cases rx
  obtain ⟨its, r, ht, hz⟩ := I.tuple hx
  have hlen : its.toArray.size = xs.length := by rw [List.size_toArray]; exact r.length.symm
  refine ⟨"tuple", _, PyProof.Rows.slot_tuple_getitem.lookup, ht.typeIs, ?_⟩
  refine HT.getItem_tuple_cut ht hs pl pu (by rw [hlen]; exact hw) ?_ (by rw [hlen]; exact hz)
  rw [hlen]
  refine ⟨.ref s.heap.objs.size, _, I.laid (t' := s.toks) (o := .tup (cutV xs lo hi)) (fun b ob q => Heap.get?_push_of_some _ q) (Nat.le_refl _) ?_, rfl, q _ (I.hok.fresh (Nat.le_refl _))⟩
  exact ⟨Nat.le_trans (cutV_length xs lo hi) hz, _, (r.drop (HT.sIx xs.length 0 lo)).take (HT.sIx xs.length xs.length hi - HT.sIx xs.length 0 lo), IsTup.new _ _⟩
def rLtT (K : PySem.W.Frag) : R2 := fun x y H Q => ∃ a b ns ms, x = .ref a ∧ y = .ref b ∧ SqT K H a (ns.map V.int) ∧ SqT K H b (ms.map V.int) ∧ Q (.bl (HT.lexLt ns ms)) H
theorem op_ltT (hu : X.A.units < cLine) : OpR X (compareOp .Lt) (rLtT X.K) := by
  intro pins s σ H x y v u Q I rx ry h
  obtain ⟨a, b, ns, ms, rfl, rfl, ha, hb, q⟩ := h
  cases rx
  cases ry
  obtain ⟨its, r1, p1, _⟩ := I.tuple ha
  obtain ⟨its2, r2, p2, _⟩ := I.tuple hb
  have i1 : IntsAre its.toArray.toList ns := intsAre_of r1
  have i2 : IntsAre its2.toArray.toList ms := intsAre_of r2
  exact HT.lt_tupInts p1 p2 i1 i2 hu ⟨.bl (HT.lexLt ns ms), H, I, rfl, q⟩
def rCatT (K : PySem.W.Frag) : R2 := fun x y H Q => ∃ a b xs ys, x = .ref a ∧ y = .ref b ∧ SqT K H a xs ∧ SqT K H b ys ∧ xs ≠ [] ∧ xs.length + ys.length ≤ sizeLine ∧
  (ys = [] → Q (.ref a) H) ∧ (ys ≠ [] → ∀ p, H p = none → Q (.ref p) (upd H p (.tup (xs ++ ys))))
theorem Vals.nil_iff {xs : List V} {us : List Value} (r : Vals xs us) : us = [] ↔ xs = [] := by
  cases r with
  | nil => simp
  | cons _ _ => simp
theorem op_catT : OpR X (binaryOp .Add) (rCatT X.K) := by
  intro pins s σ H x y v u Q I rx ry h
  obtain ⟨a, b, xs, ys, rfl, rfl, ha, hb, hx, hz, q1, q2⟩ := h
  cases rx
  cases ry
  obtain ⟨its, r1, p1, _⟩ := I.tuple ha
  obtain ⟨its2, r2, p2, _⟩ := I.tuple hb
  refine HT.cat_tup p1 p2 (fun z => hx (r1.nil_iff.mp z)) (fun z => ⟨.ref a, H, I, rfl, q1 (r2.nil_iff.mp z)⟩) (fun z => ?_) (by rw [← r1.length, ← r2.length]; exact hz)
  refine ⟨.ref s.heap.objs.size, _, I.laid (t' := s.toks) (o := .tup (xs ++ ys)) (fun b ob q => Heap.get?_push_of_some _ q) (Nat.le_refl _) ?_, rfl, q2 (fun w => z (r2.nil_iff.mpr w)) _ (I.hok.fresh (Nat.le_refl _))⟩
  exact ⟨by rw [List.length_append]; exact hz, _, r1.append r2, IsTup.new _ _⟩
theorem call_tupleT : CallR X (.type "tuple") (fun xs H Q => ∃ a ys, xs = [.ref a] ∧ SqT X.K H a ys ∧ Q (.ref a) H) := by
  intro pins s σ H xs us Q I r h
  obtain ⟨a, ys, rfl, ha, q⟩ := h
  obtain ⟨u, rfl, ru⟩ := vals1 r
  cases ru
  obtain ⟨its, _, p1, _⟩ := I.tuple ha
  exact call_tuple_same (items := its.toArray) p1 ⟨.ref a, H, I, rfl, q⟩
end
end L2
namespace L2
open PySem PySem.Spec PyProof.Rows
def ixN (n : Nat) (i : Int) : Option Nat := if 0 ≤ i then (if i < n then some i.toNat else none) else if -(n : Int) ≤ i then some (i + n).toNat else none
def atI {α : Type} (xs : List α) (i : Int) : Option α := (ixN xs.length i).bind fun j => xs[j]?
theorem ixN_seq {n : Nat} {i : Int} {j : Nat} (h : ixN n i = some j) : seqIndex? i n = some j ∧ j < n ∧ -(n : Int) ≤ i ∧ i < n := by
  unfold ixN at h
  by_cases h0 : 0 ≤ i
  · rw [if_pos h0] at h
    by_cases h1 : i < n
    · rw [if_pos h1] at h
      have e : i.toNat = j := Option.some.inj h
      exact ⟨by rw [seqIndex_of h0 h1, e], by omega, by omega, h1⟩
    · rw [if_neg h1] at h; cases h
  · rw [if_neg h0] at h
    by_cases h1 : -(n : Int) ≤ i
    · rw [if_pos h1] at h
      have e : (i + n).toNat = j := Option.some.inj h
      exact ⟨by rw [seqIndex_neg (by omega) h1, e], by omega, h1, by omega⟩
    · rw [if_neg h1] at h; cases h
theorem atI_get {α : Type} {xs : List α} {i : Int} {v : α} (h : atI xs i = some v) : ∃ j, seqIndex? i xs.length = some j ∧ xs[j]? = some v ∧ j < xs.length ∧ -(xs.length : Int) ≤ i ∧ i < xs.length := by
  unfold atI at h
  cases e : ixN xs.length i with
  | none => rw [e] at h; cases h
  | some j =>
    rw [e] at h
    obtain ⟨h1, h2, h3, h4⟩ := ixN_seq e
    exact ⟨j, h1, h, h2, h3, h4⟩
theorem atI_nat {α : Type} {xs : List α} {j : Nat} {v : α} (h : xs[j]? = some v) : atI xs (j : Int) = some v := by
  have hj : j < xs.length := (List.getElem?_eq_some_iff.mp h).1
  have e : ixN xs.length (j : Int) = some j := by
    unfold ixN
    rw [if_pos (by omega), if_pos (by omega)]; simp
  unfold atI; rw [e]; exact h
theorem atI_last {α : Type} (xs : List α) (v : α) : atI (xs ++ [v]) (-1) = some v := by
  have hl : (xs ++ [v]).length = xs.length + 1 := by simp
  have e : ixN (xs ++ [v]).length (-1) = some xs.length := by
    unfold ixN
    rw [hl, if_neg (by decide), if_pos (by omega)]
    congr 1
    omega
  unfold atI
  rw [e]
  show (xs ++ [v])[xs.length]? = some v
  simp
def PlainIx (b : Expr) : Prop := ∀ o i, subscripted b false o i = operate [o, i] (getItem o i)
def IxR (X : Cx) (r : R2) : Prop :=
  ∀ (value slice : Expr) (pins : List (Addr × Obj)) (s : Shared) (σ : St) (H : Hp) (x y : V) (v u : Value) (Q : VK), Inv X pins σ H s → RelV x v → RelV y u → r x y H Q →
    subscripted slice false v u = operate [v, u] (getItem v u) → wpAny (model X.prog X.w) X.A (subscriptTail value slice v u) (EP X pins σ Q) X.xe s
def MtR (X : Cx) (id : String) (r : V → List V → Hp → VK → Prop) : Prop :=
  ∀ (pins : List (Addr × Obj)) (s : Shared) (σ : St) (H : Hp) (x : V) (xs : List V) (v : Value) (us : List Value) (Q : VK), Inv X pins σ H s → RelV x v → Vals xs us → r x xs H Q →
    wpAny (model X.prog X.w) X.A (call (.builtin id) (v :: us)) (EP X pins σ Q) X.xe s
section
variable {X : Cx} {a b : Expr} {ta tb : TE} {pos : Pos}
theorem IxR.or {r r' : R2} (h : IxR X r) (h' : IxR X r') : IxR X (fun x y H Q => r x y H Q ∨ r' x y H Q) := by
  intro value slice pins s σ H x y v u Q I rx ry q hs
  rcases q with q | q
  · exact h value slice pins s σ H x y v u Q I rx ry q hs
  · exact h' value slice pins s σ H x y v u Q I rx ry q hs
theorem MtR.or {id : String} {r r' : V → List V → Hp → VK → Prop} (h : MtR X id r) (h' : MtR X id r') : MtR X id (fun x xs H Q => r x xs H Q ∨ r' x xs H Q) := by
  intro pins s σ H x xs v us Q I rx rs q
  rcases q with q | q
  · exact h pins s σ H x xs v us Q I rx rs q
  · exact h' pins s σ H x xs v us Q I rx rs q
theorem pe_ix {r : R2} (hr : IxR X r) (ha : PE X a ta) (hb : PE X b tb) (hs : PlainIx b) : PE X (.Subscript a b pos) (tOp r ta tb) := by
  intro pins s σ H Q I h
  exact Subscript_ (binT ha hb I h fun v u s2 x y H2 I2 rx ry q => hr a b pins s2 σ H2 x y v u Q I2 rx ry q (hs _ _))
def rIxL (K : PySem.W.Frag) : R2 := fun x y H Q => ∃ p xs i v, x = .ref p ∧ y = .int i ∧ SqL K H p xs ∧ atI xs i = some v ∧ Q v H
def rIxT (K : PySem.W.Frag) : R2 := fun x y H Q => ∃ p xs i v, x = .ref p ∧ y = .int i ∧ SqT K H p xs ∧ atI xs i = some v ∧ Q v H
def rIxS : R2 := fun x y H Q => ∃ z i c, x = .str z ∧ y = .int i ∧ z.length ≤ sizeLine ∧ atI z.cps.toList i = some c ∧ Q (.str ⟨#[c]⟩) H
theorem ix_list : IxR X (rIxL X.K) := by
  intro value slice pins s σ H x y v u Q I rx ry h hs
  obtain ⟨p, xs, i, z, rfl, rfl, hq, he, q⟩ := h
  cases rx
  obtain ⟨t, rfl⟩ := ry
  obtain ⟨its, r, pl, hz⟩ := I.list hq
  obtain ⟨j, h1, h2, h3, h4, h5⟩ := atI_get he
  obtain ⟨w, ew, rw'⟩ := r.get h2
  have hl := r.length
  have hn := line63
  have fin : EP X pins σ Q w s := ⟨z, H, I, rw', q⟩
  by_cases h0 : 0 ≤ i
  · have hj : i.toNat = j := by
      rw [seqIndex_of h0 h5] at h1
      exact Option.some.inj h1
    exact item_listR pl.isList h0 (by omega) (by rw [hj]; simpa using ew) fin hs
  · have hj : (i + (its.toArray.size : Int)).toNat = j := by
      rw [seqIndex_neg (by omega) h4] at h1
      rw [List.size_toArray, ← hl]
      exact Option.some.inj h1
    exact subscriptTail_builtinR (x := w) pl.isList.typeIs slot_list_getitem.lookup
      (wpAny_getItem_list_neg (Q := fun r s' => r = w ∧ EP X pins σ Q r s') pl.isList (by omega) (by rw [List.size_toArray] <;> omega) (by omega) (by rw [hj]; simpa using ew) ⟨rfl, fin⟩) hs
theorem ix_tup : IxR X (rIxT X.K) := by
  intro value slice pins s σ H x y v u Q I rx ry h hs
  obtain ⟨p, xs, i, z, rfl, rfl, hq, he, q⟩ := h
  cases rx
  obtain ⟨t, rfl⟩ := ry
  obtain ⟨its, r, pl, hz⟩ := I.tuple hq
  obtain ⟨j, h1, h2, h3, h4, h5⟩ := atI_get he
  obtain ⟨w, ew, rw'⟩ := r.get h2
  have hl := r.length
  have hn := line63
  have fin : EP X pins σ Q w s := ⟨z, H, I, rw', q⟩
  exact subscriptTail_builtinR (x := w) pl.typeIs slot_tuple_getitem.lookup
    (getItem_tuple (j := j) (Q := fun r s' => r = w ∧ EP X pins σ Q r s') pl (by omega) (by omega) (by rw [List.size_toArray, ← hl]; exact h1) (by simpa using ew) ⟨rfl, fin⟩) hs
theorem ix_str : IxR X rIxS := by
  intro value slice pins s σ H x y v u Q I rx ry h hs
  obtain ⟨z, i, c, rfl, rfl, hz, he, q⟩ := h
  obtain ⟨t, rfl⟩ := rx
  obtain ⟨t', rfl⟩ := ry
  obtain ⟨j, h1, h2, h3, h4, h5⟩ := atI_get he
  have hl : z.cps.toList.length = z.length := by simp [Str.length]
  rw [hl] at h1 h4 h5
  have hn := line63
  exact tail_any (typeIs_str s z t) slot_str_getitem.lookup (getItem_str (c := c) (by
    have e1 : decide (i < -(2 ^ 63 : Int)) = false := decide_eq_false (by omega)
    have e2 : decide (i ≥ 2 ^ 63) = false := decide_eq_false (by omega)
    rw [e1, e2, Bool.or_false]) (by rw [h1]; simpa using h2) ⟨.str ⟨#[c]⟩, H, I.tok _, ⟨_, rfl⟩, q⟩) hs
def rIx (K : PySem.W.Frag) : R2 := fun x y H Q => rIxL K x y H Q ∨ rIxT K x y H Q ∨ rIxS x y H Q
theorem ix_seq : IxR X (rIx X.K) := ix_list.or (ix_tup.or ix_str)
theorem mapSeq_set (its : List Value) (n j : Nat) (u : Value) : Obj.mapSeq (·.setIfInBounds j u) { cls := .type "list", data := .seq its.toArray n } = { cls := .type "list", data := .seq (its.set j u).toArray n } := by
  simp [Obj.mapSeq]
theorem Inv.lst {pins : List (Addr × Obj)} {σ : St} {H : Hp} {s : Shared} {p : Addr} {xs : List V} (I : Inv X pins σ H s) (h : H p = some (.lst xs)) :
    ∃ (its : List Value) (n : Nat), Vals xs its ∧ s.heap.get? p = some { cls := .type "list", data := .seq its.toArray n } ∧ xs.length ≤ sizeLine := by
  obtain ⟨z, its, n, r, e⟩ := I.hok p _ h
  exact ⟨its, n, r, e, z⟩
theorem Inv.lstUpd {pins : List (Addr × Obj)} {σ : St} {H : Hp} {s : Shared} {p : Addr} {xs ys : List V} {its its' : List Value} {n n' : Nat} {f : Obj → Obj} (I : Inv X pins σ H s) (h : H p = some (.lst xs))
    (ho : s.heap.get? p = some { cls := .type "list", data := .seq its.toArray n }) (hf : f { cls := .type "list", data := .seq its.toArray n } = { cls := .type "list", data := .seq its'.toArray n' }) (r : Vals ys its') (hz : ys.length ≤ sizeLine) (t : Nat) :
    Inv X pins σ (upd H p (.lst ys)) { s with heap := s.heap.update p f, toks := t } := by
  have e : (s.heap.update p f).get? p = some { cls := .type "list", data := .seq its'.toArray n' } := by
    rw [Heap.get?_update_self f ho (by rw [hf] <;> rfl), hf]
  refine I.write (x := p) (e := p) (by rw [h]; trivial) (.inl rfl) (fun b u hb q => (Heap.get?_update_other _ _ (Ne.symm hb)).trans q) ⟨_, e⟩ ?_
  exact ⟨hz, its', n', r, e⟩
def rSetL : V → V → V → Hp → (Hp → Prop) → Prop := fun o i v H Q => ∃ p xs k j, o = .ref p ∧ i = .int k ∧ H p = some (.lst xs) ∧ ixN xs.length k = some j ∧ Q (upd H p (.lst (xs.set j v)))
theorem set_list : PSet X rSetL := by
  intro pins s σ H o i v ov iv u Q I ro ri rv h
  obtain ⟨p, xs, k, j, rfl, rfl, hp, hj, q⟩ := h
  cases ro
  obtain ⟨t, rfl⟩ := ri
  obtain ⟨its, n, r, ho, hz⟩ := I.lst hp
  obtain ⟨h1, h2, h3, h4⟩ := ixN_seq hj
  have hl := r.length
  have hn := line63
  have I' : Inv X pins σ (upd H p (.lst (xs.set j v))) { s with heap := s.heap.update p (Obj.mapSeq (·.setIfInBounds j u)) } :=
    I.lstUpd hp ho (mapSeq_set its n j u) (r.set rv j) (by rw [List.length_set]; exact hz) s.toks
  by_cases h0 : 0 ≤ k
  · have hk : k.toNat = j := by
      rw [seqIndex_of h0 h4] at h1
      exact Option.some.inj h1
    exact PySem.W.ki_setAt ho h0 (by omega) (by rw [List.size_toArray, ← hl]; exact h4) (by rw [hk]; exact ⟨_, I', q⟩)
  · have hk : (k + (its.toArray.size : Int)).toNat = j := by
      rw [seqIndex_neg (by omega) h3] at h1
      rw [List.size_toArray, ← hl]
      exact Option.some.inj h1
    exact PySem.W.ki_setBack ho (by omega) (by rw [List.size_toArray, ← hl]; exact h3) (by omega) (by rw [hk]; exact ⟨_, I', q⟩)
theorem slice_bounds (lo hi : Option Int) (n : Nat) : (sliceBounds lo hi none n).1 = ((HT.sIx n 0 lo : Nat) : Int) ∧ (sliceBounds lo hi none n).2.1 = ((HT.sIx n n hi : Nat) : Int) ∧ (sliceBounds lo hi none n).2.2 = 1 := by
  refine ⟨?_, ?_, rfl⟩
  · cases lo with
    | none => simp [sliceBounds, HT.sIx]
    | some i =>
      simp only [sliceBounds, HT.sIx, Option.getD_none, show (1 : Int) > 0 by decide, if_true]
      by_cases h : i < 0
      · simp only [h, if_true] <;> omega
      · simp only [h, if_false] <;> omega
  · cases hi with
    | none => simp [sliceBounds, HT.sIx]
    | some i =>
      simp only [sliceBounds, HT.sIx, Option.getD_none, show (1 : Int) > 0 by decide, if_true]
      by_cases h : i < 0
      · simp only [h, if_true] <;> omega
      · simp only [h, if_false] <;> omega
theorem slicePick_cut (its : List Value) (lo hi : Option Int) : slicePick its.toArray lo hi none = ((its.drop (HT.sIx its.length 0 lo)).take (HT.sIx its.length its.length hi - HT.sIx its.length 0 lo)).toArray := by
  obtain ⟨h1, h2, h3⟩ := slice_bounds lo hi its.toArray.size
  unfold slicePick
  rw [h1, h2, h3]
  simp only [sliceRange_one, pick_run, List.size_toArray] <;> rfl
def rSlL (K : PySem.W.Frag) : V → Option Int → Option Int → Hp → VK → Prop := fun x lo hi H Q => ∃ a xs, x = .ref a ∧ SqL K H a xs ∧ ∀ p, H p = none → Q (.ref p) (upd H p (.lst (cutV xs lo hi)))
theorem sl_list : SlR X (rSlL X.K) := by
  intro pins s σ H x v vl vu lo hi sl Q I rx hs pl pu h
  obtain ⟨a, xs, rfl, hx, q⟩ := h
  cases rx
  obtain ⟨its, r, ht, hz⟩ := I.list hx
  have hlen := r.length
  refine ⟨"list", _, slot_list_getitem.lookup, ht.isList.typeIs, ?_⟩
  refine wpAny_getItem_list_slice ht.isList hs pl pu .none (by simp) ?_ (by rw [List.size_toArray] <;> omega)
  rw [slicePick_cut, ← hlen]
  refine ⟨.ref s.heap.objs.size, _, I.laid (t' := s.toks) (o := .lst (cutV xs lo hi)) (fun b ob q => Heap.get?_push_of_some _ q) (Nat.le_refl _) ?_, rfl, q _ (I.hok.fresh (Nat.le_refl _))⟩
  exact ⟨Nat.le_trans (cutV_length xs lo hi) hz, _, 0, (r.drop (HT.sIx xs.length 0 lo)).take (HT.sIx xs.length xs.length hi - HT.sIx xs.length 0 lo), Heap.get?_push_size _ rfl⟩
def flatV : V → Bool
  | .non => true
  | .bl _ => true
  | .int _ => true
  | .str _ => true
  | _ => false
def eqV : V → V → Bool
  | .non, .non => true
  | .bl a, .bl b => a == b
  | .bl a, .int b => (if a then 1 else 0) == b
  | .int a, .bl b => a == (if b then 1 else 0)
  | .int a, .int b => a == b
  | .str a, .str b => a == b
  | _, _ => false
theorem eqAt_V {A : Around} {s : Shared} {y x : V} {u v : Value} (ry : RelV y u) (rx : RelV x v) (fy : flatV y = true) (fx : flatV x = true) : SeqAt.EqAt A s u v (eqV y x) := by
  cases y with
  | non =>
    cases ry
    cases x with
    | non => cases rx; exact SeqAt.EqAt.same _
    | bl b => cases rx; exact SeqAt.EqAt.none_bool b
    | int b => obtain ⟨t, rfl⟩ := rx; exact SeqAt.EqAt.none_int b t
    | str b => obtain ⟨t, rfl⟩ := rx; exact SeqAt.EqAt.none_str b t
    | _ => exact absurd (show false = true from fx) Bool.false_ne_true
  | bl a =>
    cases ry
    cases x with
    | non => cases rx; exact SeqAt.EqAt.bool_none a
    | bl b => cases rx; exact SeqAt.EqAt.bool_bool a b
    | int b => obtain ⟨t, rfl⟩ := rx; exact SeqAt.EqAt.bool_int a b t
    | str b => obtain ⟨t, rfl⟩ := rx; exact SeqAt.EqAt.bool_str a b t
    | _ => exact absurd (show false = true from fx) Bool.false_ne_true
  | int a =>
    obtain ⟨t', rfl⟩ := ry
    cases x with
    | non => cases rx; exact SeqAt.EqAt.int_none a t'
    | bl b => cases rx; exact SeqAt.EqAt.int_bool a t' b
    | int b => obtain ⟨t, rfl⟩ := rx; exact SeqAt.EqAt.int_int a t' b t
    | str b => obtain ⟨t, rfl⟩ := rx; exact SeqAt.EqAt.int_str a t' b t
    | _ => exact absurd (show false = true from fx) Bool.false_ne_true
  | str a =>
    obtain ⟨t', rfl⟩ := ry
    cases x with
    | non => cases rx; exact SeqAt.EqAt.str_none a t'
    | bl b => cases rx; exact SeqAt.EqAt.str_bool a t' b
    | int b => obtain ⟨t, rfl⟩ := rx; exact SeqAt.EqAt.str_int a t' b t
    | str b => obtain ⟨t, rfl⟩ := rx; exact SeqAt.EqAt.str_str a t' b t
    | _ => exact absurd (show false = true from fx) Bool.false_ne_true
  | _ => exact absurd (show false = true from fy) Bool.false_ne_true
def eqU (x : V) (u : Value) : Bool := match u with
  | .none => eqV .non x
  | .bool b => eqV (.bl b) x
  | .int i _ => eqV (.int i) x
  | .str z _ => eqV (.str z) x
  | _ => false
theorem eqU_of {x y : V} {u : Value} (r : RelV y u) (f : flatV y = true) : eqU x u = eqV y x := by
  cases y with
  | non => cases r; rfl
  | bl b => cases r; rfl
  | int i => obtain ⟨t, rfl⟩ := r; rfl
  | str z => obtain ⟨t, rfl⟩ := r; rfl
  | _ => exact absurd (show false = true from f) Bool.false_ne_true
theorem any_eqU {x : V} : ∀ {xs : List V} {us : List Value}, Vals xs us → xs.all flatV = true → us.any (eqU x) = xs.any fun y => eqV y x
  | _, _, .nil, _ => rfl
  | y :: xs, u :: us, .cons r t, f => by
    rw [List.all_cons, Bool.and_eq_true] at f
    rw [List.any_cons, List.any_cons, eqU_of r f.1, any_eqU t f.2]
theorem mem_eqAt {A : Around} {s : Shared} {x : V} {v : Value} (rx : RelV x v) (fx : flatV x = true) : ∀ {xs : List V} {us : List Value}, Vals xs us → xs.all flatV = true → ∀ u ∈ us, SeqAt.EqAt A s u v (eqU x u)
  | _, _, .nil, _ => fun u hu => by cases hu
  | y :: xs, u :: us, .cons r t, f => fun u' hu => by
    rw [List.all_cons, Bool.and_eq_true] at f
    rcases List.mem_cons.mp hu with rfl | hu
    · rw [eqU_of r f.1]; exact eqAt_V r rx f.1 fx
    · exact mem_eqAt rx fx t f.2 u' hu
def inV (x : V) (xs : List V) : Bool := xs.any fun y => eqV y x
def rIn (K : PySem.W.Frag) (neg : Bool) : R2 := fun x y H Q => ∃ p xs, y = .ref p ∧ (SqL K H p xs ∨ SqT K H p xs) ∧ flatV x = true ∧ xs.all flatV = true ∧ Q (.bl (if neg then !inV x xs else inV x xs)) H
theorem op_in_seq : OpR X (compareOp .In) (rIn X.K false) := by
  intro pins s σ H x y v u Q I rx ry h
  obtain ⟨p, xs, rfl, hq, fx, fs, q⟩ := h
  cases ry
  rcases hq with hq | hq
  · obtain ⟨its, r, pl, hz⟩ := I.list hq
    refine SeqAt.in_listAt (eqU x) pl.isList (fun w hw => mem_eqAt rx fx r fs w (by simpa using hw)) ⟨.bl _, H, I, rfl, ?_⟩
    rw [show its.toArray.any (eqU x) = its.any (eqU x) by simp, any_eqU r fs]
    exact q
  · obtain ⟨its, r, pl, hz⟩ := I.tuple hq
    refine SeqAt.in_tupleAt (eqU x) pl (fun w hw => mem_eqAt rx fx r fs w (by simpa using hw)) ⟨.bl _, H, I, rfl, ?_⟩
    rw [show its.toArray.any (eqU x) = its.any (eqU x) by simp, any_eqU r fs]
    exact q
theorem op_notIn_seq : OpR X (compareOp .NotIn) (rIn X.K true) := by
  intro pins s σ H x y v u Q I rx ry h
  obtain ⟨p, xs, rfl, hq, fx, fs, q⟩ := h
  cases ry
  rcases hq with hq | hq
  · obtain ⟨its, r, pl, hz⟩ := I.list hq
    refine SeqAt.notIn_listAt (eqU x) pl.isList (fun w hw => mem_eqAt rx fx r fs w (by simpa using hw)) ⟨.bl _, H, I, rfl, ?_⟩
    rw [show its.toArray.any (eqU x) = its.any (eqU x) by simp, any_eqU r fs]
    exact q
  · obtain ⟨its, r, pl, hz⟩ := I.tuple hq
    refine SeqAt.notIn_tupleAt (eqU x) pl (fun w hw => mem_eqAt rx fx r fs w (by simpa using hw)) ⟨.bl _, H, I, rfl, ?_⟩
    rw [show its.toArray.any (eqU x) = its.any (eqU x) by simp, any_eqU r fs]
    exact q
theorem op_notIn_str : OpR X (compareOp .NotIn) (fun x y H Q => ∃ i j, x = .str i ∧ y = .str j ∧ Q (.bl (!(!(Builtin.Str.occurrences j i 0 j.length 1).isEmpty))) H) := by
  intro pins s σ H x y v u Q I rx ry h
  obtain ⟨i, j, rfl, rfl, q⟩ := h
  obtain ⟨t, rfl⟩ := rx
  obtain ⟨t', rfl⟩ := ry
  exact notIn_str ⟨.bl _, H, I, rfl, q⟩
theorem call_len_seq : CallR X (.builtin "len") (fun xs H Q => ∃ p ys, xs = [.ref p] ∧ (SqL X.K H p ys ∨ SqT X.K H p ys) ∧ Q (.int ys.length) H) := by
  intro pins s σ H xs us Q I r h
  obtain ⟨p, ys, rfl, hq, q⟩ := h
  obtain ⟨u, rfl, rx⟩ := vals1 r
  cases rx
  have hn := line63
  rcases hq with hq | hq
  · obtain ⟨its, r', pl, hz⟩ := I.list hq
    have hlen := r'.length
    exact Calls.call_len_list pl.isList (by simp only [List.size_toArray] <;> omega) ⟨.int ys.length, H, I.tok _, ⟨s.toks + 1, by rw [List.size_toArray, hlen]⟩, q⟩
  · obtain ⟨its, r', pl, hz⟩ := I.tuple hq
    have hlen := r'.length
    exact len_tuple pl (by simp only [List.size_toArray] <;> omega) ⟨.int ys.length, H, I.tok _, ⟨s.toks + 1, by rw [List.size_toArray, hlen]⟩, q⟩
theorem call_len_str : CallR X (.builtin "len") (fun xs H Q => ∃ z, xs = [.str z] ∧ z.length ≤ sizeLine ∧ Q (.int z.length) H) := by
  intro pins s σ H xs us Q I r h
  obtain ⟨z, rfl, hz, q⟩ := h
  obtain ⟨u, rfl, t, rfl⟩ := vals1 r
  have hn := line63
  exact len_str (by omega) ⟨.int z.length, H, I.tok _, ⟨_, rfl⟩, q⟩
theorem CallR.or {f : Value} {r r' : List V → Hp → VK → Prop} (h : CallR X f r) (h' : CallR X f r') : CallR X f (fun xs H Q => r xs H Q ∨ r' xs H Q) := by
  intro pins s σ H xs us Q I rs q
  rcases q with q | q
  · exact h pins s σ H xs us Q I rs q
  · exact h' pins s σ H xs us Q I rs q
theorem call_list_of : CallR X (.type "list") (fun xs H Q => ∃ p ys, xs = [.ref p] ∧ (SqL X.K H p ys ∨ SqT X.K H p ys) ∧ ∀ l, H l = none → Q (.ref l) (upd H l (.lst ys))) := by
  intro pins s σ H xs us Q I r h
  obtain ⟨p, ys, rfl, hq, q⟩ := h
  obtain ⟨u, rfl, rx⟩ := vals1 r
  cases rx
  have fin : ∀ (its : List Value), Vals ys its → ys.length ≤ sizeLine → ∀ (h' : Heap) (c' : Nat), (∀ b o', s.heap.get? b = some o' → h'.get? b = some o') →
      h'.get? s.heap.objs.size = some { cls := .type "list", dict := none, data := .seq its.toArray c', slots := #[] } → EP X pins σ Q (.ref s.heap.objs.size) { s with heap := h' } := fun its r' hz h' c' kp e =>
    ⟨.ref s.heap.objs.size, _, I.laid (t' := s.toks) kp (Nat.le_refl _) (show ObjOk X.prog X.w _ h' _ (.lst ys) from ⟨hz, its, c', r', e⟩), rfl, q _ (I.hok.fresh (Nat.le_refl _))⟩
  rcases hq with hq | hq
  · obtain ⟨its, r', pl, hz⟩ := I.list hq
    have hlen := r'.length
    obtain ⟨o, ho, hc, n, hd⟩ := pl.isList
    exact call_list_seq p (.inl rfl) ho hc hd (fun h' c' kp e => fin its r' hz h' c' kp e) (by simp only [List.size_toArray] <;> omega)
  · obtain ⟨its, r', pl, hz⟩ := I.tuple hq
    have hlen := r'.length
    obtain ⟨o, ho, hc, n, hd⟩ := pl
    exact call_list_seq p (.inr rfl) ho hc hd (fun h' c' kp e => fin its r' hz h' c' kp e) (by simp only [List.size_toArray] <;> omega)
theorem call_tuple_of : CallR X (.type "tuple") (fun xs H Q => ∃ p ys, xs = [.ref p] ∧ ((SqL X.K H p ys ∧ ∀ l, H l = none → Q (.ref l) (upd H l (.tup ys))) ∨ (SqT X.K H p ys ∧ Q (.ref p) H))) := by
  intro pins s σ H xs us Q I r h
  obtain ⟨p, ys, rfl, h⟩ := h
  obtain ⟨u, rfl, rx⟩ := vals1 r
  cases rx
  rcases h with ⟨hq, q⟩ | ⟨hq, q⟩
  · obtain ⟨its, r', pl, hz⟩ := I.list hq
    have hlen := r'.length
    refine call_tuple_list pl.isList (fun h' kp => ?_) (by simp only [List.size_toArray] <;> omega)
    have I1 : Inv X pins σ H { s with heap := h' } := I.kept (t' := s.toks) kp
    have I2 : Inv X pins σ (upd H h'.objs.size (.tup ys)) { s with heap := h'.push { cls := .type "tuple", data := .seq its.toArray } } :=
      I1.laid (t' := s.toks) (fun b o e => Heap.get?_push_of_some _ e) (Nat.le_refl _) (show ObjOk X.prog X.w _ _ _ (.tup ys) from ⟨hz, its, r', IsTup.new _ _⟩)
    exact ⟨.ref h'.objs.size, _, I2, rfl, q _ (I1.hok.fresh (Nat.le_refl _))⟩
  · obtain ⟨its, r', pl, hz⟩ := I.tuple hq
    exact call_tuple_same pl ⟨.ref p, H, I, rfl, q⟩
def tyV (K : PySem.W.Frag) (T : String) (x : V) (H : Hp) : Prop := match x with
  | .str _ => T = "str"
  | .int _ => T = "int"
  | .ref p => (T = "list" ∧ ∃ xs, SqL K H p xs) ∨ (T = "tuple" ∧ ∃ o, K.lookup p = some o ∧ o.cls = .type "tuple" ∧ o.dict = none) ∨
      (T = "dict" ∧ ((∃ kvs, H p = some (.dK kvs)) ∨ ∃ kvs, H p = some (.dT kvs))) ∨ (T = "set" ∧ ∃ S n, H p = some (.set S n))
  | _ => False
theorem tyV_is {pins : List (Addr × Obj)} {σ : St} {H : Hp} {s : Shared} {T : String} {x : V} {v : Value} (I : Inv X pins σ H s) (r : RelV x v) (ty : tyV X.K T x H) :
    s.TypeIs v T ∧ ∀ a, v = .ref a → ∃ ob, s.heap.get? a = some ob ∧ ob.dict = none := by
  cases x with
  | str z =>
    obtain ⟨t, rfl⟩ := r
    cases (show T = "str" from ty)
    exact ⟨typeIs_str s z t, fun _ e => nomatch e⟩
  | int i =>
    obtain ⟨t, rfl⟩ := r
    cases (show T = "int" from ty)
    exact ⟨typeIs_int s i t, fun _ e => nomatch e⟩
  | ref p =>
    cases r
    rcases ty with ⟨rfl, xs, hq⟩ | ⟨rfl, o, hk, hc, hd⟩ | ⟨rfl, hk⟩ | ⟨rfl, S, n, hk⟩
    · obtain ⟨its, _, pl, _⟩ := I.list hq
      refine ⟨pl.isList.typeIs, fun a e => ?_⟩
      cases e
      obtain ⟨o, n, e, c, hd, _⟩ := pl
      exact ⟨o, e, hd⟩
    · refine ⟨⟨o, I.kIn p o hk, hc⟩, fun a e => ?_⟩
      cases e
      exact ⟨o, I.kIn _ o hk, hd⟩
    · have z : ∃ o, s.heap.get? p = some o ∧ o.ExactDict := by
        rcases hk with ⟨kvs, hk⟩ | ⟨kvs, hk⟩
        · obtain ⟨_, _, _, _, o, _, _, e, ex, _⟩ := I.hok p _ hk
          exact ⟨o, e, ex⟩
        · obtain ⟨_, _, _, _, o, _, _, e, ex, _⟩ := I.hok p _ hk
          exact ⟨o, e, ex⟩
      obtain ⟨o, e, ex⟩ := z
      refine ⟨⟨o, e, ex.1⟩, fun a e2 => ?_⟩
      cases e2
      exact ⟨o, e, ex.2.1⟩
    · obtain ⟨o, _, _, _, e, ex, _⟩ := I.hok p _ hk
      refine ⟨⟨o, e, ex.1⟩, fun a e2 => ?_⟩
      cases e2
      exact ⟨o, e, ex.2.1⟩
  | _ => exact False.elim ty
def tBM0 (K : PySem.W.Frag) (T : String) (r : V → List V → Hp → VK → Prop) (to : TE) : TE := fun σ H Q => to σ H fun x H1 => tyV K T x H1 ∧ r x [] H1 Q
def tBM (K : PySem.W.Frag) (T : String) (r : V → List V → Hp → VK → Prop) (to : TE) (t : TA) : TE := fun σ H Q => to σ H fun x H1 => tyV K T x H1 ∧ t σ H1 fun xs H2 => r x xs H2 Q
variable {o e : Expr} {es : List Expr} {to : TE} {t : TA} {name : Str} {apos cpos : Pos} {T id : String} {r : V → List V → Hp → VK → Prop}
theorem pe_bm0 (pa : PlainAttrs T) (slot : Slot T name id) (hty : typeOf (.builtin id) = pure (.type "method_descriptor")) (hm : MtR X id r) (ho : PE X o to)
    (hbase : attributeBase o name X.env (eval o X.env) = eval o X.env := by rfl) (hline : (apos.endLine == cpos.line) = true := by rfl) : PE X (.Call (.Attribute o name apos) [] [] cpos) (tBM0 X.K T r to) := by
  intro pins s σ H Q I h
  refine wpAny_Call_method0_late hbase hline (thn (ho pins s σ H _ I h) fun v s1 ⟨x, H1, I1, r1, ty, q1⟩ => ?_)
  obtain ⟨h1, h2⟩ := tyV_is I1 r1 ty
  exact ⟨T, id, pa, slot, hty, h1, h2, Calls.callWith_builtin rfl (PySem.evalArgs_none (hm pins s1 σ H1 x [] v [] Q I1 r1 .nil q1))⟩
theorem pe_bm (pa : PlainAttrs T) (slot : Slot T name id) (hty : typeOf (.builtin id) = pure (.type "method_descriptor")) (hm : MtR X id r) (ho : PE X o to) (ha : PA X (e :: es) t)
    (hbase : attributeBase o name X.env (eval o X.env) = eval o X.env := by rfl)
    (hfew : ((backTo cpos (starEach (e :: es) X.env)).all (fun x => !x.1) && (backToKw cpos (keywordEach [] X.env)).all (fun x => x.1.isSome)
      && decide ((e :: es).length + ([] : List Keyword).length + (if ([] : List Keyword).isEmpty then 0 else 1) < 30)) = true := by rfl)
    (hline : (apos.endLine == cpos.line) = true := by rfl) (hs : starEach (e :: es) X.env = (false, eval e X.env) :: starEach es X.env := by rfl) (hplain : (backTo cpos (starEach es X.env)).any (·.1) = false := by rfl) :
    PE X (.Call (.Attribute o name apos) (e :: es) [] cpos) (tBM X.K T r to t) := by
  intro pins s σ H Q I h
  refine wpAny_Call_method_late hbase hfew hline rfl (thn (ho pins s σ H _ I h) fun v s1 ⟨x, H1, I1, r1, ty, q1⟩ => ?_)
  obtain ⟨h1, h2⟩ := tyV_is I1 r1 ty
  refine ⟨T, id, pa, slot, hty, h1, h2, ?_⟩
  have hA := ha cpos pins s1 σ H1 _ I1 q1
  rw [hs] at hA ⊢
  refine Calls.callWith_builtin (by show (false || (backTo cpos (starEach es X.env)).any (·.1)) = false; rw [hplain] <;> rfl) (Calls.evalArgs_plain ?_)
  exact thn hA fun us s2 ⟨vs, H2, I2, r2, q2⟩ => hm pins s2 σ H2 x vs v us Q I2 r1 r2 q2
/- xs.append(e), list.index on a module's tuple .. are MtR facts of 06m -/
end
end L2
namespace L2
open PySem PySem.Spec PyProof.Rows
def MtM (X : Cx) (id : String) (r : V → List V → Hp → VK → Prop) : Prop :=
  ∀ (pins : List (Addr × Obj)) (s : Shared) (σ : St) (H : Hp) (x : V) (xs : List V) (v : Value) (us : List Value) (Q : VK), Inv X pins σ H s → RelV x v → Vals xs us → r x xs H Q →
    wpAny (model X.prog X.w) X.A (call (.builtin id) (v :: us)) (EP X pins σ Q) X.xe s
theorem Vals.one : ∀ {x : V} {us : List Value}, Vals [x] us → ∃ u, us = [u] ∧ RelV x u
  | _, _, .cons r .nil => ⟨_, rfl, r⟩
theorem Vals.two : ∀ {x y : V} {us : List Value}, Vals [x, y] us → ∃ u v, us = [u, v] ∧ RelV x u ∧ RelV y v
  | _, _, _, .cons r (.cons q .nil) => ⟨_, _, rfl, r, q⟩
theorem Vals.zero : ∀ {us : List Value}, Vals [] us → us = []
  | _, .nil => rfl
theorem Vals.dropLast {xs : List V} {us : List Value} (h : Vals xs us) : Vals xs.dropLast us.dropLast := by
  induction h with
  | nil => exact .nil
  | cons r t ih =>
    cases t with
    | nil => exact .nil
    | cons q t' => exact .cons r ih
theorem Vals.eraseIdx : ∀ {xs : List V} {us : List Value} (i : Nat), Vals xs us → Vals (xs.eraseIdx i) (us.eraseIdx i)
  | _, _, _, .nil => .nil
  | _, _, 0, .cons _ t => t
  | _, _, i + 1, .cons r t => .cons r (Vals.eraseIdx i t)
theorem Vals.reverse {xs : List V} {us : List Value} (h : Vals xs us) : Vals xs.reverse us.reverse := by
  induction h with
  | nil => exact .nil
  | cons r t ih => rw [List.reverse_cons, List.reverse_cons]; exact Vals.append ih (.cons r .nil)
theorem Vals.rep {xs : List V} {us : List Value} (h : Vals xs us) : ∀ k : Nat, Vals (List.replicate k xs).flatten (List.replicate k us).flatten
  | 0 => .nil
  | k + 1 => by
    rw [List.replicate_succ, List.replicate_succ, List.flatten_cons, List.flatten_cons]
    exact Vals.append h (Vals.rep h k)
theorem erase_last {α : Type} (l : List α) : l.eraseIdx (l.length - 1) = l.dropLast := by
  induction l with
  | nil => rfl
  | cons a r ih =>
    cases r with
    | nil => rfl
    | cons b r =>
      have e : (a :: b :: r).length - 1 = ((b :: r).length - 1) + 1 := by
        have h1 : (a :: b :: r).length = r.length + 2 := rfl
        have h2 : (b :: r).length = r.length + 1 := rfl
        omega
      rw [e, List.eraseIdx_cons_succ, ih]
      all_goals rfl
theorem len_erase {α : Type} : ∀ (l : List α) (i : Nat), (l.eraseIdx i).length ≤ l.length
  | [], _ => Nat.le_refl _
  | _ :: _, 0 => Nat.le_succ _
  | _ :: r, i + 1 => Nat.succ_le_succ (len_erase r i)
theorem foldl_rep (its : List Value) : ∀ (k : Nat) (acc : List Value),
    List.foldl (fun x1 x2 => x1 ++ x2) acc.toArray (List.replicate k its.toArray) = (acc ++ (List.replicate k its).flatten).toArray
  | 0, acc => by simp
  | k + 1, acc => by
    have e : acc.toArray ++ its.toArray = (acc ++ its).toArray := by simp
    have e2 : (acc ++ its) ++ (List.replicate k its).flatten = acc ++ (List.replicate (k + 1) its).flatten := by
      rw [List.replicate_succ, List.flatten_cons, List.append_assoc]
    rw [← e2, ← foldl_rep its k (acc ++ its), ← e, List.replicate_succ, List.foldl_cons]
section
variable {X : Cx} {pins : List (Addr × Obj)} {σ : St} {H : Hp} {s : Shared} {l b : Addr} {xs ys zs : List V}
theorem Inv.lset {its its' : List Value} {n : Nat} {f : Array Value → Array Value} {t' : Nat} (I : Inv X pins σ H s) (hH : H l = some (.lst xs))
    (e : s.heap.get? l = some { cls := .type "list", data := .seq its.toArray n }) (hf : f its.toArray = its'.toArray) (hv : Vals ys its') (hz : ys.length ≤ sizeLine) :
    Inv X pins σ (upd H l (.lst ys)) { s with heap := s.heap.update l (Obj.mapSeq f), toks := t' } := by
  have q := PySem.IsL.update e f
  rw [hf] at q
  refine I.write (x := l) (e := l) (by rw [hH]; exact trivial) (.inl rfl) (fun b' u hb hu => (Heap.get?_update_other s.heap (Obj.mapSeq f) (Ne.symm hb)).trans hu) ⟨_, q⟩ ?_
  exact ⟨hz, its', _, hv, q⟩
theorem Inv.lnew {its : List Value} {t' : Nat} (I : Inv X pins σ H s) (hv : Vals ys its) (hz : ys.length ≤ sizeLine) :
    Inv X pins σ (upd H s.heap.objs.size (.lst ys)) { s with heap := s.heap.push { cls := .type "list", data := .seq its.toArray }, toks := t' } :=
  I.laid (fun _ _ q => Heap.get?_push_of_some _ q) (Nat.le_refl _) ⟨hz, its, 0, hv, Heap.get?_push_size _ rfl⟩
theorem Inv.fresh (I : Inv X pins σ H s) : H s.heap.objs.size = none := I.hok.fresh (Nat.le_refl _)
theorem Inv.lstM (I : Inv X pins σ H s) (hH : H l = some (.lst xs)) : xs.length ≤ sizeLine ∧ ∃ (its : List Value) (n : Nat), Vals xs its ∧ xs.length = its.length ∧ s.heap.get? l = some { cls := .type "list", data := .seq its.toArray n } := by
  obtain ⟨z, its, n, r, e⟩ := I.hok l _ hH
  exact ⟨z, its, n, r, r.length, e⟩
theorem notLongL {n : Nat} (h : n ≤ sizeLine) : Builtin.List.listTooLong n = false := by
  unfold Builtin.List.listTooLong
  exact decide_eq_false (by omega)
end
section
variable {X : Cx}
def rAppend : V → List V → Hp → VK → Prop := fun x vs H Q => ∃ l xs y, x = .ref l ∧ vs = [y] ∧ H l = some (.lst xs) ∧ xs.length < sizeLine ∧ Q .non (upd H l (.lst (xs ++ [y])))
theorem mt_append : MtM X "list.append" rAppend := by
  intro pins s σ H x vs v us Q I rx rv h
  obtain ⟨l, xs, y, rfl, rfl, hH, hz, q⟩ := h
  cases rx
  obtain ⟨u, rfl, ru⟩ := rv.one
  obtain ⟨z, its, n, r, hl, e⟩ := I.lstM hH
  refine call_meets F.slot_list_append ⟨_, e, rfl⟩ F.entry_list_append (F.args_list_append_2 _ _) (PySem.list_append l its.toArray n u (by rw [List.size_toArray]; omega)) ⟨e, ?_⟩
  refine ⟨.non, _, I.lset (its' := its ++ [u]) hH e (by simp) (r.append (.cons ru .nil)) ?_, rfl, q⟩
  rw [List.length_append, List.length_singleton]
  omega
def rExtend : V → List V → Hp → VK → Prop := fun x vs H Q => ∃ l b xs zs, x = .ref l ∧ vs = [.ref b] ∧ H l = some (.lst xs) ∧ H b = some (.lst zs) ∧ xs.length + zs.length ≤ sizeLine ∧ Q .non (upd H l (.lst (xs ++ zs)))
theorem mt_extend : MtM X "list.extend" rExtend := by
  intro pins s σ H x vs v us Q I rx rv h
  obtain ⟨l, b, xs, zs, rfl, rfl, hH, hB, hz, q⟩ := h
  cases rx
  obtain ⟨u, rfl, ru⟩ := rv.one
  cases ru
  obtain ⟨z, its, n, r, hl, e⟩ := I.lstM hH
  obtain ⟨z2, its2, n2, r2, hl2, e2⟩ := I.lstM hB
  have hsz : its.toArray.size + its2.toArray.size ≤ sizeLine := by rw [List.size_toArray, List.size_toArray]; omega
  have hlong : ¬ (!its.toArray.isEmpty && Builtin.List.listTooLong (its.toArray.size + its2.toArray.size)) = true := by
    rw [notLongL hsz, Bool.and_false]
    exact Bool.false_ne_true
  refine call_meets F.slot_list_extend ⟨_, e, rfl⟩ F.entry_list_extend (F.args_list_extend_2 _ _)
    (AutoSeq1.list_extend_list_list_0 l its.toArray n b its2.toArray n2 hlong (by rw [List.size_toArray]; omega) (by omega)) ⟨e, e2, ?_⟩
  refine ⟨.non, _, I.lset (its' := its ++ its2) hH e (by simp) (r.append r2) ?_, rfl, q⟩
  rw [List.length_append]
  omega
def rPop : V → List V → Hp → VK → Prop := fun x vs H Q => ∃ l xs y, x = .ref l ∧ vs = [] ∧ H l = some (.lst xs) ∧ xs[xs.length - 1]? = some y ∧ Q y (upd H l (.lst xs.dropLast))
theorem mt_pop : MtM X "list.pop" rPop := by
  intro pins s σ H x vs v us Q I rx rv h
  obtain ⟨l, xs, y, rfl, rfl, hH, hy, q⟩ := h
  cases rx
  have hus := rv.zero
  subst hus
  obtain ⟨z, its, n, r, hl, e⟩ := I.lstM hH
  obtain ⟨u, hu, ru⟩ := r.get hy
  have hy' : its.toArray[its.toArray.size - 1]? = some u := by
    show its.toArray[its.length - 1]? = some u
    rw [← Array.getElem?_toList, ← hl]
    exact hu
  refine call_meets F.slot_list_pop ⟨_, e, rfl⟩ F.entry_list_pop (F.args_list_pop_1 _) (MeetsSeq.list_pop_last l its.toArray n u hy' (by rw [List.size_toArray]; omega)) ⟨e, ?_⟩
  refine ⟨y, _, I.lset (its' := its.dropLast) hH e ?_ r.dropLast ?_, ru, q⟩
  · show its.toArray.eraseIdxIfInBounds (its.toArray.size - 1) = its.dropLast.toArray
    rw [List.size_toArray, List.eraseIdxIfInBounds_toArray, erase_last]
  · rw [List.length_dropLast]
    omega
def rPopAt : V → List V → Hp → VK → Prop := fun x vs H Q => ∃ l xs i k y, x = .ref l ∧ vs = [.int i] ∧ H l = some (.lst xs) ∧ -(2 ^ 63) ≤ i ∧ i < 2 ^ 63 ∧ seqIndex? i xs.length = some k ∧ xs[k]? = some y ∧ Q y (upd H l (.lst (xs.eraseIdx k)))
theorem mt_popAt : MtM X "list.pop" rPopAt := by
  intro pins s σ H x vs v us Q I rx rv h
  obtain ⟨l, xs, i, k, y, rfl, rfl, hH, h1, h2, hk, hy, q⟩ := h
  cases rx
  obtain ⟨u, rfl, ru⟩ := rv.one
  obtain ⟨t, rfl⟩ := ru
  obtain ⟨z, its, n, r, hl, e⟩ := I.lstM hH
  obtain ⟨w, hw, rw'⟩ := r.get hy
  refine call_meets F.slot_list_pop ⟨_, e, rfl⟩ F.entry_list_pop (F.args_list_pop_2 _ _)
    (MeetsSeq.list_pop_at l its.toArray n i t k w (fitsIndex_both h1 h2) (by rw [List.size_toArray, ← hl]; exact hk) (by rw [← Array.getElem?_toList]; exact hw) (by rw [List.size_toArray]; omega)) ⟨e, ?_⟩
  refine ⟨y, _, I.lset (its' := its.eraseIdx k) hH e ?_ (r.eraseIdx k) ?_, rw', q⟩
  · show its.toArray.eraseIdxIfInBounds k = (its.eraseIdx k).toArray
    rw [List.eraseIdxIfInBounds_toArray]
  · have := len_erase xs k
    omega
def rReverse : V → List V → Hp → VK → Prop := fun x vs H Q => ∃ l xs, x = .ref l ∧ vs = [] ∧ H l = some (.lst xs) ∧ Q .non (upd H l (.lst xs.reverse))
theorem mt_reverse : MtM X "list.reverse" rReverse := by
  intro pins s σ H x vs v us Q I rx rv h
  obtain ⟨l, xs, rfl, rfl, hH, q⟩ := h
  cases rx
  have hus := rv.zero
  subst hus
  obtain ⟨z, its, n, r, hl, e⟩ := I.lstM hH
  refine call_meets F.slot_list_reverse ⟨_, e, rfl⟩ F.entry_list_reverse (F.args_list_reverse_1 _) (AutoSeq1.list_reverse_list_0 l its.toArray n (by rw [List.size_toArray]; omega)) ⟨e, ?_⟩
  refine ⟨.non, _, I.lset (its' := its.reverse) hH e (by simp) r.reverse ?_, rfl, q⟩
  rw [List.length_reverse]
  omega
def rClear : V → List V → Hp → VK → Prop := fun x vs H Q => ∃ l xs, x = .ref l ∧ vs = [] ∧ H l = some (.lst xs) ∧ Q .non (upd H l (.lst []))
theorem mt_clear : MtM X "list.clear" rClear := by
  intro pins s σ H x vs v us Q I rx rv h
  obtain ⟨l, xs, rfl, rfl, hH, q⟩ := h
  cases rx
  have hus := rv.zero
  subst hus
  obtain ⟨z, its, n, r, hl, e⟩ := I.lstM hH
  refine call_meets F.slot_list_clear ⟨_, e, rfl⟩ F.entry_list_clear (F.args_list_clear_1 _) (AutoSeq1.list_clear_list_0 l its.toArray n (by rw [List.size_toArray]; omega)) ⟨e, ?_⟩
  exact ⟨.non, _, I.lset (its' := []) (ys := []) hH e rfl .nil (Nat.zero_le _), rfl, q⟩
def rCat : R2 := fun x y H Q => ∃ l b xs zs, x = .ref l ∧ y = .ref b ∧ H l = some (.lst xs) ∧ H b = some (.lst zs) ∧ xs.length + zs.length ≤ sizeLine ∧ ∀ p, H p = none → Q (.ref p) (upd H p (.lst (xs ++ zs)))
theorem op_cat : OpR X (binaryOp .Add) rCat := by
  intro pins s σ H x y v u Q I rx ry h
  obtain ⟨l, b, xs, zs, rfl, rfl, hH, hB, hz, q⟩ := h
  cases rx
  cases ry
  obtain ⟨z, its, n, r, hl, e⟩ := I.lstM hH
  obtain ⟨z2, its2, n2, r2, hl2, e2⟩ := I.lstM hB
  refine PySem.P.add_list e e2 ?_ (by rw [List.size_toArray, List.size_toArray]; omega)
  have ea : its.toArray ++ its2.toArray = (its ++ its2).toArray := by simp
  rw [ea]
  exact ⟨.ref _, _, I.lnew (t' := s.toks) (r.append r2) (by rw [List.length_append]; omega), rfl, q _ I.fresh⟩
def rRep : R2 := fun x y H Q => ∃ l k xs, x = .ref l ∧ y = .int k ∧ H l = some (.lst xs) ∧ -(2 ^ 63) ≤ k ∧ k < 2 ^ 63 ∧ xs.length * k.toNat ≤ sizeLine ∧
  ∀ p, H p = none → Q (.ref p) (upd H p (.lst (List.replicate k.toNat xs).flatten))
theorem len_rep {α : Type} (xs : List α) (k : Nat) : (List.replicate k xs).flatten.length = k * xs.length := by
  induction k with
  | zero => simp
  | succ k ih => rw [List.replicate_succ, List.flatten_cons, List.length_append, ih, Nat.succ_mul, Nat.add_comm]
theorem op_rep : OpR X (binaryOp .Mult) rRep := by
  intro pins s σ H x y v u Q I rx ry h
  obtain ⟨l, k, xs, rfl, rfl, hH, h1, h2, hz, q⟩ := h
  cases rx
  obtain ⟨t, rfl⟩ := ry
  obtain ⟨z, its, n, r, hl, e⟩ := I.lstM hH
  have hlen : its.toArray.size * k.toNat ≤ sizeLine := by rw [List.size_toArray, ← hl]; exact hz
  have hcap : ¬ its.toArray.size * k.toNat > (2 ^ 63 - 1) / 8 := by
    have : (sizeLine : Nat) ≤ (2 ^ 63 - 1) / 8 := by decide
    omega
  have hfit : ¬ (!Builtin.List.listFitsIndex k) = true := by
    rw [fitsIndex_both h1 h2]
    exact Bool.false_ne_true
  have hlong : ¬ Builtin.List.listTooLong (its.toArray.size * k.toNat) = true := by
    rw [notLongL hlen]
    exact Bool.false_ne_true
  have hnew : List.foldl (fun x1 x2 => x1 ++ x2) #[] (List.replicate (if its.toArray.isEmpty = true then 0 else k.toNat) its.toArray) = (List.replicate k.toNat its).flatten.toArray := by
    have f0 : ∀ m : Nat, List.foldl (fun x1 x2 => x1 ++ x2) #[] (List.replicate m its.toArray) = (List.replicate m its).flatten.toArray := fun m => by
      have := foldl_rep its m []
      rw [List.nil_append] at this
      exact this
    rw [f0]
    cases its with
    | nil => simp
    | cons a r' => rw [if_neg (by simp)]
  refine wpAny_binaryOp_repeat_ref (T := "list") (U := "int") (by decide) ⟨_, e, rfl⟩ (fun s' => typeIs_int s' k t) noFill_list_mul F.fills_int_mul F.slot_int_rmul repeat_list F.slot_int_index.lookup
    (call_meets F.slot_int_rmul (typeIs_int s k t) F.entry_int_rmul (F.args_int_rmul_2 _ _) (int___rmul___int_list k t l its.toArray n)
      ⟨e, rfl, ⟨_, e, rfl⟩, call_meets F.slot_list_mul ⟨_, e, rfl⟩ F.entry_list_mul (F.args_list_mul_2 _ _) (AutoListH.list___mul___list_int_3 l its.toArray n k t hfit hcap hlong) ⟨e, ?_⟩⟩)
  rw [hnew]
  exact ⟨.ref _, _, I.lnew (t' := s.toks) (r.rep k.toNat) (by rw [len_rep, Nat.mul_comm]; exact hz), rfl, q _ I.fresh⟩
theorem del_list {pins : List (Addr × Obj)} {s : Shared} {σ : St} {H : Hp} {l : Addr} {xs : List V} {i : Int} {t : Tok} {k : Nat} {Q : Unit → Shared → Prop} (I : Inv X pins σ H s) (hH : H l = some (.lst xs))
    (h1 : -(2 ^ 63) ≤ i) (h2 : i < 2 ^ 63) (hk : seqIndex? i xs.length = some k) (h : ∀ s', Inv X pins σ (upd H l (.lst (xs.eraseIdx k))) s' → Q () s') :
    wpAny (model X.prog X.w) X.A (delItem (.ref l) (.int i t)) Q X.xe s := by
  obtain ⟨z, its, n, r, hl, e⟩ := I.lstM hH
  refine PySem.P.delItem_list (k := k) e (fitsIndex_both h1 h2) (by rw [List.size_toArray, ← hl]; exact hk) (h _ ?_) (by rw [List.size_toArray]; omega)
  refine I.lset (its' := its.eraseIdx k) (t' := s.toks) hH e ?_ (r.eraseIdx k) ?_
  · show its.toArray.eraseIdxIfInBounds k = (its.eraseIdx k).toArray
    rw [List.eraseIdxIfInBounds_toArray]
  · have := len_erase xs k
    omega
end
section
variable {prog : Program} {w : World} {A : Around} {E : Value → Shared → Prop} {s : Shared}
theorem splice_eq (its its2 : List Value) (a c : Nat) : its.toArray.extract 0 a ++ its2.toArray ++ its.toArray.extract c its.toArray.size = (its.take a ++ its2 ++ its.drop c).toArray := by
  apply Array.toList_inj.mp
  first
    | (simp
       exact List.take_of_length_le (by simp))
    | simp [List.take_of_length_le]
    | simp
theorem bounds_run {a c n : Nat} (hac : a ≤ c) (hc : c ≤ n) : sliceBounds (some (a : Int)) (some (c : Int)) none n = ((a : Int), (c : Int), 1) := by
  simp only [sliceBounds, Option.getD_none]
  have h1 : ¬ ((a : Int) < 0) := by omega
  have h2 : ¬ ((c : Int) < 0) := by omega
  simp only [h1, h2, if_false, show (1 : Int) > 0 by decide, if_true]
  congr 1
  · omega
  · congr 1; omega
set_option maxRecDepth 100000 in
theorem setItem_slice {l b sl : Addr} {items new : Array Value} {n n2 : Nat} {vl vu : Value} {a c : Nat} {Q : Unit → Shared → Prop}
    (e : s.heap.get? l = some { cls := .type "list", data := .seq items n }) (e2 : s.heap.get? b = some { cls := .type "list", data := .seq new n2 }) (hne : l ≠ b)
    (hs : s.heap.IsSliceOf sl vl vu .none) (pl : IsPart vl (some (a : Int))) (pu : IsPart vu (some (c : Int))) (hac : a ≤ c) (hc : c ≤ items.size)
    (hsz : items.size + new.size ≤ sizeLine) (h : Q () { s with heap := s.heap.update l (Obj.mapSeq fun xs => xs.extract 0 a ++ new ++ xs.extract c xs.size) }) :
    wpAny (model prog w) A (setItem (.ref l) (.ref sl) (.ref b)) Q E s := by
  have hl : s.heap.IsList l items := PySem.IsL.isList e
  have hb : s.heap.IsList b new := PySem.IsL.isList e2
  obtain ⟨os, hos, hcs, hds⟩ := id hs
  have hTs : s.TypeIs (.ref sl) "slice" := ⟨os, hos, hcs⟩
  have hstep : ¬ ((rawPart none == rawInt 0) = true) := Bool.false_ne_true
  have hsame : Builtin.List.listSameRef (.ref l) (.ref b) = false := by
    unfold Builtin.List.listSameRef
    exact beq_eq_false_iff_ne.mpr hne
  have hmax : (max (a : Int) (c : Int)).toNat = c := by omega
  have hz' : ((fun xs : Array Value => xs.extract 0 a ++ new ++ xs.extract c xs.size) items).size ≤ sizeLine + 1 := by
    simp only [Array.size_append, Array.size_extract]
    omega
  unfold setItem
  try with_reducible refine wpAny_holding ?_
  first | refine wpAny_bind (wpAny_pure ?_) | skip
  refine wpAny_bind (wpAny_sequenceKey hl.typeIs (by decide) ?_)
  refine wpAny_bind (wpAny_callSpecial?_slot (name := Str.ofString "__setitem__") hl.typeIs slot_list_setitem
    (wpAny_call_entry slot_list_setitem hl.typeIs entry_list_setitem ?_ (args_list_setitem _ _ _)))
  show wpAny _ _ (Builtin.List.listSubscript? (.ref sl) >>= _) _ _ s
  refine wpAny_bind ?_
  unfold Builtin.List.listSubscript?
  refine wpAny_bind (wpAny_specialOf hTs slice_no_index ?_)
  simp only [Option.isNone_none, if_true]
  refine wpAny_pure ?_
  show wpAny _ _ (typeOf (.ref sl) >>= _) _ _ s
  refine wpAny_bind (wpAny_typeOf hTs ?_)
  first
    | rw [if_neg (by decide)]
    | refine PySem.W.KFB.if_not (by decide) ?_
  rw [listSliceParts_eq]
  refine wpAny_bind (wpAny_bind (wpAny_field hos hds (x := .none) rfl (wpAny_bind (wpAny_listPart .none ?_))))
  rw [if_neg hstep]
  refine wpAny_bind (wpAny_field hos hds (x := vl) rfl (wpAny_bind (wpAny_listPart pl ?_)))
  refine wpAny_bind (wpAny_field hos hds (x := vu) rfl (wpAny_bind (wpAny_listPart pu (wpAny_pure ?_))))
  first
    | simp only [hsame, Bool.false_eq_true, if_false]
    | refine PySem.W.KFB.if_not hsame ?_
    | (dsimp only
       rw [if_neg (by rw [hsame]; exact Bool.false_ne_true)])
  refine wpAny_bind (m := Builtin.List.listAllItems (.ref b) "must assign iterable to extended slice") ?_
  unfold Builtin.List.listAllItems
  refine wpAny_bind (wpAny_typeOf hb.typeIs ?_)
  first
    | refine PySem.W.KFB.if_so (by decide) ?_
    | rw [if_pos (by decide)]
    | simp only [beq_self_eq_true, Bool.true_or, if_true]
  unfold Builtin.List.listItems
  refine wpAny_bind (wpAny_seqItems e2 rfl (wpAny_pure ?_))
  refine wpAny_bind (wpAny_bind (wpAny_seqItems e rfl (wpAny_pure ?_)))
  refine wpAny_bind (wpAny_of_eq ((sliceIndices_raw (some (a : Int)) (some (c : Int)) none items.size (by simp)).trans (congrArg (pure : Int × Int × Int → Sem (Int × Int × Int)) (bounds_run hac hc))) ?_)
  show wpAny _ _ (if ((1 : Int) == 1) = true then _ else _) _ _ s
  rw [if_pos (by decide)]
  refine wpAny_bind (wpAny_rule ?_)
  first
    | simp only [notLongL hsz, Bool.false_eq_true, if_false]
    | refine PySem.W.KFB.if_not (notLongL hsz) ?_
  first | refine wpAny_bind (wpAny_pure ?_) | skip
  show wpAny _ _ (updateSeq l (fun xs => xs.extract 0 ((a : Int)).toNat ++ new ++ xs.extract (max (a : Int) (c : Int)).toNat xs.size) >>= _) _ _ s
  rw [hmax, Int.toNat_natCast]
  refine wpAny_bind (wpAny_updateSeq (hz := Nat.le_trans (Nat.le_add_right _ _) hsz) (_hz' := hz') e rfl ?_)
  refine wpAny_bind (wpAny_letGo ?_)
  first
    | exact wpAny_bind (wpAny_pure (wpAny_pure ⟨.none, rfl, wpAny_pure h⟩))
    | exact wpAny_pure ⟨.none, rfl, wpAny_pure h⟩
end
section
variable {X : Cx}
theorem set_slice {pins : List (Addr × Obj)} {s : Shared} {σ : St} {H : Hp} {l b sl : Addr} {xs ys : List V} {a c : Int} {vl vu : Value} {Q : Unit → Shared → Prop} (I : Inv X pins σ H s)
    (hH : H l = some (.lst xs)) (hB : H b = some (.lst ys)) (hne : l ≠ b) (hs : s.heap.IsSliceOf sl vl vu .none) (ra : RelV (.int a) vl) (rc : RelV (.int c) vu) (h0 : 0 ≤ a) (hac : a ≤ c) (hc : c ≤ xs.length)
    (hz : xs.length + ys.length ≤ sizeLine) (h : ∀ s', Inv X pins σ (upd H l (.lst (xs.take a.toNat ++ ys ++ xs.drop c.toNat))) s' → Q () s') :
    wpAny (model X.prog X.w) X.A (setItem (.ref l) (.ref sl) (.ref b)) Q X.xe s := by
  obtain ⟨ta, rfl⟩ := ra
  obtain ⟨tc, rfl⟩ := rc
  obtain ⟨z, its, n, r, hl, e⟩ := I.lstM hH
  obtain ⟨z2, its2, n2, r2, hl2, e2⟩ := I.lstM hB
  obtain ⟨a', rfl⟩ := Int.eq_ofNat_of_zero_le h0
  obtain ⟨c', rfl⟩ := Int.eq_ofNat_of_zero_le (Int.le_trans h0 hac)
  simp only [Int.toNat_natCast] at h
  refine setItem_slice (a := a') (c := c') e e2 hne hs (.int _ _) (.int _ _) (by omega) (by rw [List.size_toArray]; omega) (by rw [List.size_toArray, List.size_toArray]; omega) (h _ ?_)
  refine I.lset (its' := its.take a' ++ its2 ++ its.drop c') (t' := s.toks) hH e ?_ (Vals.append (Vals.append (r.take _) r2) (r.drop _)) ?_
  · exact splice_eq its its2 a' c'
  · rw [List.length_append, List.length_append, List.length_take, List.length_drop]
    omega
end
end L2
namespace Att
open PySem PySem.W PySem.Calls PyProof.Rows
theorem ints_of_wellAll {P : Params} {h : Heap} : ∀ (ns : List Int) (vs : List Value), WellAll P h vs (ns.map WData.int) → IntsAre vs ns := by
  intro ns
  induction ns with
  | nil =>
    intro vs w
    rw [List.map_nil] at w
    cases w
    exact .nil
  | cons n ns ih =>
    intro vs w
    rw [List.map_cons] at w
    cases w with
    | cons a b =>
      cases a
      exact .cons _ _ (ih _ b)
theorem script_of {l : OpenLaw} {n : Nat} (hn : l.most = some n) {P : Params} {h : Heap} {args : List WData} {vals : List Value}
    (hpre : l.row.toRowW.claim.pre args = true) (hwl : WellAll P h vals args) :
    ∃ a vs ns, vals = [Value.ref a] ∧ args = [WData.list (ns.map WData.int)] ∧ h.get? a = some { cls := .type "list", data := .seq vs.toArray } ∧ IntsAre vs ns ∧ ns.length ≤ n := by
  have hsh : WShape.hasAll [] args [.list .int] = true := (pre_splitW hpre).1
  have hc : l.pre.holds [] { args := args } = true := (pre_splitW hpre).2
  obtain ⟨d, r, rfl, h1, h2⟩ := hasAllW_cons hsh
  obtain rfl := hasAllW_nil h2
  obtain ⟨xs, rfl, h3⟩ := hasW_list h1
  obtain ⟨ns, rfl⟩ := items_int h3
  have hlen : ns.length ≤ n := by
    unfold OpenLaw.pre at hc
    have h4 : (WTm.not (.lt (.lit (.int (n : Int))) (.len (.arg 0)))).holds [] { args := [.list (ns.map .int)] } = true := by
      have h4 := (holds_andW hc).1
      rw [hn] at h4
      exact h4
    have h5 := condW_of h4 (w_not (w_lt w_lit (w_len_list (w_arg rfl))))
    rw [List.length_map] at h5
    refine Nat.le_of_not_lt fun q => ?_
    have q' : (n : Int) < ((ns.length : Nat) : Int) := by omega
    first
      | (rw [decide_eq_true q'] at h5; exact absurd h5 (by decide))
      | (simp at h5; omega)
  cases hwl with
  | cons w1 w2 =>
    cases w2
    cases w1 with
    | list ho hall => exact ⟨_, _, ns, rfl, rfl, ho, ints_of_wellAll ns _ hall, hlen⟩
theorem post_true (l : OpenLaw) (args : List WData) : l.row.toRowW.claim.post args (.bool true) args = true :=
  postW_of (r := l.row.toRowW) (X := (true == true))
    (show WShape.has [] (.bool true) .bool = true by first | rfl | decide | simp [WShape.has, WShape.arms, WShape.armsAll])
    (show (WTm.eq .res (.lit (.bool true))).value [] { args := args, res := some (.bool true), after := args } = some (.bool (true == true)) from w_eq_bool (w_res rfl) w_lit) rfl
theorem attach {l : OpenLaw} {n : Nat} {q : Program} {loose : List Str} {XP : (Str → Option Value) → Heap → Prop} {YP : World → Heap → Prop} {d : DefRec} {x : Str}
    (hn : l.most = some n) (hdf : d.params.defaults = [])
    (hbind : ∀ pm cd doc v : Value, bindArgs (docDef d.name d.params d.body d.scope pm cd doc) ⟨[v], []⟩ = pure [(x, v)])
    (hx : d.scope.names.lookup x = some .local ∨ d.scope.names.lookup x = some .cell)
    (hk : d.scope.kind = .function) (hco : d.scope.isCoroutine = false) (hgen : d.scope.isGenerator = false)
    (body : ∀ (w : World) (s₀ s₁ s : Shared) (mg mb : Str → Option Value) (fa : Addr) (o : Obj) (pm cd doc : Value) (a : Addr) (vs : List Value) (ns : List Int),
      Ground q loose [] XP w s₀ mg mb s₁.heap → YP w s₁.heap →
      s₁.heap.get? fa = some o → o.data = .func (docDef d.name d.params d.body d.scope pm cd doc) → s₁.heap.CodeRec cd d.name → mg d.name = some (.ref fa) →
      s₁.heap.get? a = some { cls := .type "list", data := .seq vs.toArray } → IntsAre vs ns → ns.length ≤ n →
      s.gens = #[] → s.os = s₁.os →
      Fr s₁.heap s₁.heap.objs.size s.heap (bindL (envOfC d.name d.scope s₁.heap.objs.size fa cd).kindOf [(x, .ref a)] fun _ => none) →
      Cl s₁.heap.objs.size (cellsFrom (s₁.heap.objs.size + 1) d.scope.names []) s.heap (bindC (envOfC d.name d.scope s₁.heap.objs.size fa cd).kindOf [(x, .ref a)] fun _ => none) →
      wpAny (model l.prog w) (callerA.deeper (envOfC d.name d.scope s₁.heap.objs.size fa cd)) (execs d.body (envOfC d.name d.scope s₁.heap.objs.size fa cd))
        (fun f s' => f = .ret (.bool true) ∧ OldK s₁.heap s'.heap ∧ s'.os = s₁.os ∧ AllBare s'.gens) (fun _ _ => False) s) :
    WalkO q loose XP YP l.row.toRowW d [] (fun f vs => PySem.call f vs) := by
  intro w s₀ s₁ mg mb G Y fa o pm cd doc dV kV ho hd hcd hD hmg hg args vals as hpre hlay hrd hwl hlo
  obtain rfl : dV = .none := Dflts.none hD hdf
  obtain rfl : kV = .none := Dflts.noKw hD
  obtain ⟨a, vs, ns, rfl, rfl, hobj, hints, hlen⟩ := script_of hn hpre hwl
  refine enter_call ?_
  refine call_cells_ret (o := o) (by rw [depth_caller]; decide) ho (fd_plain hd) G.T.nolimit hcd (hbind pm cd doc (.ref a)) (fun y hy => ?_) (fun h₁ tk F X => ?_) hco hgen hk
  · obtain rfl : y = (x, Value.ref a) := List.mem_singleton.mp hy
    rcases hx with e | e
    · exact .inl e
    · exact .inr ⟨e, cellsFrom_some _ _ _ (.inl e)⟩
  · refine wpAny_mono (body w s₀ s₁ { s₁ with heap := h₁, toks := tk } mg mb fa o pm cd doc a vs ns G Y ho (fd_plain hd) hcd hmg hobj hints hlen hg rfl F X) (fun f s' hq => ?_) (fun _ _ hq => hq)
    obtain ⟨rfl, h2, h3, h4⟩ := hq
    exact ⟨.inl ⟨.bool true, .bool true, [], rfl, fun _ => rfl, .bool true, post_true l _, fun _ => ⟨List.Pairwise.nil, fun _ hm => (nomatch hm)⟩⟩, h2, h3, h4⟩
theorem attach_call {l : OpenLaw} {n : Nat} {q : Program} {loose : List Str} {XP : (Str → Option Value) → Heap → Prop} {YP : World → Heap → Prop} {d : DefRec}
    (hn : l.most = some n) (hdf : d.params.defaults = [])
    (call : ∀ (w : World) (s₀ s₁ : Shared) (mg mb : Str → Option Value) (fa : Addr) (o : Obj) (pm cd doc : Value) (a : Addr) (vs : List Value) (ns : List Int),
      Ground q loose [] XP w s₀ mg mb s₁.heap → YP w s₁.heap →
      s₁.heap.get? fa = some o → o.data = .func (docDef d.name d.params d.body d.scope pm cd doc) → s₁.heap.CodeRec cd d.name → mg d.name = some (.ref fa) →
      s₁.heap.get? a = some { cls := .type "list", data := .seq vs.toArray } → IntsAre vs ns → ns.length ≤ n → s₁.gens = #[] →
      codeAny (model l.prog w) callerA (.call (.ref fa) ⟨[.ref a], []⟩) (fun r s' => r = .ok (.ret (.bool true)) ∧ OldK s₁.heap s'.heap ∧ s'.os = s₁.os ∧ AllBare s'.gens) s₁) :
    WalkO q loose XP YP l.row.toRowW d [] (fun f vs => PySem.call f vs) := by
  intro w s₀ s₁ mg mb G Y fa o pm cd doc dV kV ho hd hcd hD hmg hg args vals as hpre hlay hrd hwl hlo
  obtain rfl : dV = .none := Dflts.none hD hdf
  obtain rfl : kV = .none := Dflts.noKw hD
  obtain ⟨a, vs, ns, rfl, rfl, hobj, hints, hlen⟩ := script_of hn hpre hwl
  refine enter_call (codeAny_mono (call w s₀ s₁ mg mb fa o pm cd doc a vs ns G Y ho (fd_plain hd) hcd hmg hobj hints hlen hg) fun r s' hq => ?_)
  obtain ⟨rfl, h2, h3, h4⟩ := hq
  exact ⟨.inl ⟨.bool true, .bool true, [], rfl, fun _ => rfl, .bool true, post_true l _, fun _ => ⟨List.Pairwise.nil, fun _ hm => (nomatch hm)⟩⟩, h2, h3, h4⟩
theorem attachN {l : OpenLaw} {n : Nat} {q : Program} {loose : List Str} {XP : (Str → Option Value) → Heap → Prop} {YP : World → Heap → Prop} {d : DefRec} {x : Str}
    (hn : l.most = some n) (hdf : d.params.defaults = [])
    (hbind : ∀ pm cd doc v : Value, bindArgs (docDef d.name d.params d.body d.scope pm cd doc) ⟨[v], []⟩ = pure [(x, v)])
    (hx : d.scope.names.lookup x = some .local ∨ d.scope.names.lookup x = some .cell)
    (hk : d.scope.kind = .function) (hco : d.scope.isCoroutine = false) (hgen : d.scope.isGenerator = false)
    (body : ∀ (w : World) (s₀ s₁ s : Shared) (mg mb : Str → Option Value) (fa : Addr) (o : Obj) (pm cd doc : Value) (a : Addr) (vs : List Value) (ns : List Int),
      Ground q loose [] XP w s₀ mg mb s₁.heap → YP w s₁.heap →
      s₁.heap.get? fa = some o → o.data = .func (docDef d.name d.params d.body d.scope pm cd doc) → s₁.heap.CodeRec cd d.name → mg d.name = some (.ref fa) →
      s₁.heap.get? a = some { cls := .type "list", data := .seq vs.toArray } → IntsAre vs ns → ns.length ≤ n →
      s.gens = #[] → s.os = s₁.os →
      Fr s₁.heap s₁.heap.objs.size s.heap (bindL (envOfC d.name d.scope s₁.heap.objs.size fa cd).kindOf [(x, .ref a)] fun _ => none) →
      Cl s₁.heap.objs.size (cellsFrom (s₁.heap.objs.size + 1) d.scope.names []) s.heap (bindC (envOfC d.name d.scope s₁.heap.objs.size fa cd).kindOf [(x, .ref a)] fun _ => none) →
      wpAny (model l.prog w) (callerA.deeper (envOfC d.name d.scope s₁.heap.objs.size fa cd)) (execs d.body (envOfC d.name d.scope s₁.heap.objs.size fa cd))
        (fun f s' => f = .ret (.bool true) ∧ (∀ b o, s₁.heap.get? b = some o → s'.heap.get? b = some o) ∧ s'.os = s₁.os ∧ s'.gens = #[]) (fun _ _ => False) s) :
    WalkN q loose XP YP l.row.toRowW d [] (fun f vs => PySem.call f vs) := by
  intro w s₀ s₁ mg mb G Y fa o pm cd doc dV kV ho hd hcd hD hmg hg args vals as hpre hlay hrd hwl hlo
  obtain rfl : dV = .none := Dflts.none hD hdf
  obtain rfl : kV = .none := Dflts.noKw hD
  obtain ⟨a, vs, ns, rfl, rfl, hobj, hints, hlen⟩ := script_of hn hpre hwl
  refine enter_callW ?_
  refine call_cells_ret (o := o) (by rw [depth_caller]; decide) ho (fd_plain hd) G.T.nolimit hcd (hbind pm cd doc (.ref a)) (fun y hy => ?_) (fun h₁ tk F X => ?_) hco hgen hk
  · obtain rfl : y = (x, Value.ref a) := List.mem_singleton.mp hy
    rcases hx with e | e
    · exact .inl e
    · exact .inr ⟨e, cellsFrom_some _ _ _ (.inl e)⟩
  · refine wpAny_mono (body w s₀ s₁ { s₁ with heap := h₁, toks := tk } mg mb fa o pm cd doc a vs ns G Y ho (fd_plain hd) hcd hmg hobj hints hlen hg rfl F X) (fun f s' hq => ?_) (fun _ _ hq => hq)
    obtain ⟨rfl, h2, h3, h4⟩ := hq
    exact ⟨.inl ⟨.bool true, .bool true, [], rfl, fun _ => rfl, .bool true, post_true l _, fun _ => ⟨List.Pairwise.nil, fun _ hm => (nomatch hm)⟩⟩, h2, h3, h4⟩
section
variable {prog : Program} {w : World} {A : Around} {E : Value → Shared → Prop} {s : Shared} {K : Frag}
theorem call_fn {R : Result → Shared → Prop} {name qual : Str} {params : Arguments} {body : List Stmt} {scope : Scope} {dV kV doc pm cdv ct oc : Value} {an od : Option Addr} {osl : Array (Option Value)} {f : Addr} {args : Args} {binds : List (Str × Value)}
    (X : K.In s.heap) (hlim : s.heap.NoLimit) (ho : K.lookup f = some ⟨oc, od, .func (fnOf name qual params body scope dV kV doc pm an cdv ct), osl⟩) (hcd : codeIn K cdv qual = true) (hroom : A.depth < recursionLimit)
    (hbind : BindsTo s (fnOf name qual params body scope dV kV doc pm an cdv ct) args binds)
    (hkind : (binds.all fun y => scope.names.lookup y.1 == some .local || scope.names.lookup y.1 == some .cell) = true)
    (h : ∀ s₁, InCallC s s.heap.objs.size (bindL (envOfC qual scope s.heap.objs.size f cdv).kindOf binds fun _ => none) (cellsFrom (s.heap.objs.size + 1) scope.names [])
        (bindC (envOfC qual scope s.heap.objs.size f cdv).kindOf binds fun _ => none) s₁ →
      wpAny (model prog w) (A.deeper (envOfC qual scope s.heap.objs.size f cdv)) (execs body (envOfC qual scope s.heap.objs.size f cdv))
        (fun fl s' => R (.ok (.ret (match fl with | .ret v => v | _ => .none))) s')
        (fun e s' => wpAny (model prog w) (A.deeper (envOfC qual scope s.heap.objs.size f cdv)) (leaving (envOfC qual scope s.heap.objs.size f cdv) e) (fun _ s'' => R (.error e) s'') (fun e' s'' => R (.error e') s'') s') s₁)
    (hco : scope.isCoroutine = false) (hgen : scope.isGenerator = false) (hk : scope.kind = .function) : codeAny (model prog w) A (.call (.ref f) args) R s := by
  refine codeAny_call_function hroom (X _ _ ho) rfl hco hgen rfl (codeRec_of X hcd) (hbind _ _ _ _ ?_)
  refine wpAny_newFunctionEnv_cells hk (kindsX hkind _) fun env he s₁ x => ?_
  subst he
  exact ⟨hlim.keeps x.toInCall.keep, codeAny_func (h s₁ x)⟩
theorem make_obj {R : Result → Shared → Prop} {C fI : Addr} {rest : List Value} {kw : List (Str × Value)}
    (X : K.In s.heap) (hm : makesIn K C = true) (hi : findIn K (.ref C) "__init__" = some (some (.ref fI))) (hf : isFn K (.ref fI) = true)
    (h : codeAny (model prog w) (A.under (.builtin "type.__call__" ⟨.ref C :: rest, kw⟩)) (.call (.ref fI) ⟨.ref (s.heap.objs.size + 1) :: rest, kw⟩) (InitBack (s.heap.objs.size + 1) R)
      { s with heap := (s.heap.push emptyDict).push (instObj C s.heap.objs.size) }) : codeAny (model prog w) A (.call (.ref C) ⟨rest, kw⟩) R s := by
  obtain ⟨hh, g, d, t, os⟩ := s
  exact make_core (makes_of X hm) (looks_findIn X hi) (fun self => bind_fn X self (beq_iff_eq.mp hf)) (.inl rfl) h
theorem get_field {x C : Addr} {ox : Obj} {es : List DictEntry} {n : Nat} {name : Str} {expr : Bool} {v : Value} {Q : Value → Shared → Prop}
    (X : K.In s.heap) (I : PySem.W.InstAt s.heap x ox C (some (dictOf es n))) (hg : plainGet K C name = true) (hh : hasDictIn K C = true) (ha : findIn K (.ref C) name = some none)
    (hl : getL name es = some (some v)) (hv : handedIn v = true) (h : Q v { s with toks := s.toks + 1 }) : wpAny (model prog w) A (getAttr (.ref x) name expr) Q E s :=
  get_value X I (plainGet_of hg).1 (findObj_own hh ha rfl hl) hv h
theorem get_method {x C f : Addr} {ox : Obj} {es : List DictEntry} {n : Nat} {name : Str} {pl : Sem Bool} {Q : Value × List Value → Shared → Prop}
    (X : K.In s.heap) (I : PySem.W.InstAt s.heap x ox C (some (dictOf es n))) (hg : plainGet K C name = true) (hf : findIn K (.ref C) name = some (some (.ref f))) (ht : isFn K (.ref f) = true)
    (hl : getL name es = some none) (h : Q (.ref f, [.ref x]) s) : wpAny (model prog w) A (getMethod (.ref x) name pl) Q E s :=
  method_fn X I (plainGet_of hg).1 (plainGet_of hg).2 hf (beq_iff_eq.mp ht) (by show (lookIn name (dictOf es n)).map _ = _; rw [lookIn_dict, hl]; rfl) h
def noObjs (h : Heap) : Heap := { h with objs := #[] }
theorem noObjs_get (h : Heap) (b : Addr) : (noObjs h).get? b = none := by
  cases e : (noObjs h).get? b with
  | none => rfl
  | some o => exact absurd (Heap.lt_size e) (Nat.not_lt_zero _)
def ledger (h : Heap) (L d : Addr) : List (Addr × Obj) := (List.range h.objs.size).filterMap fun a => if a = L ∨ a = d then none else (h.get? a).map fun o => (a, o)
theorem mem_ledger {h : Heap} {L d a : Addr} {o : Obj} : (a, o) ∈ ledger h L d ↔ a ≠ L ∧ a ≠ d ∧ h.get? a = some o := by
  unfold ledger
  rw [List.mem_filterMap]
  constructor
  · rintro ⟨b, _, e⟩
    split at e
    · cases e
    · rename_i hb
      obtain ⟨o', ho, e'⟩ := Option.map_eq_some_iff.mp e
      cases e'
      exact ⟨fun q => hb (.inl q), fun q => hb (.inr q), ho⟩
  · rintro ⟨n1, n2, ho⟩
    refine ⟨a, List.mem_range.mpr (Heap.lt_size ho), ?_⟩
    rw [if_neg (show ¬ (a = L ∨ a = d) from fun q => q.elim n1 n2), ho] <;> rfl
theorem news_ledger {h : Heap} {L d : Addr} {od : Obj} (hne : d ≠ L) (ho : h.get? d = some od) : News (noObjs h) L h ([] ++ (d, od) :: ledger h L d) := by
  rintro ⟨a, o⟩ hp
  rcases List.mem_cons.mp hp with e | hp
  · cases e
    exact ⟨ho, hne, noObjs_get _ _⟩
  · obtain ⟨n1, n2, e⟩ := mem_ledger.mp hp
    exact ⟨e, n1, noObjs_get _ _⟩
theorem fr_all {h : Heap} {L : Addr} {m : Str → Option Value} (n : h.Ns L m) : Fr (noObjs h) L h m :=
  ⟨n, fun b o e => (by rw [noObjs_get] at e; cases e), Nat.zero_le _⟩
theorem upd_ledger {h : Heap} {L d : Addr} {o o' : Obj} : Upd d o o' ((d, o) :: ledger h L d) ((d, o') :: ledger h L d) :=
  .head fun ⟨_, _⟩ hp => (mem_ledger.mp hp).2.1
theorem set_field {x C dx L : Addr} {ox : Obj} {m : Str → Option Value} {es es' : List DictEntry} {n n' : Nat} {name : Str} {v : Value} {Q : Unit → Shared → Prop}
    (X : K.In s.heap) (I : PySem.W.InstAt s.heap x ox C (some (dictOf es n))) (hd : ox.dict = some dx) (hL : s.heap.Ns L m) (hne : dx ≠ L)
    (hs : findIn K (.ref C) "__setattr__" = some (some (.builtin "object.__setattr__"))) (hp : plainOver K C = true) (ht : takerIn K C name = some none) (hh : hasDictIn K C = true) (hl : (getL name es).isSome = true)
    (e : (putL name (PyData.keyHash w.params name) (.str name (s.toks + 1)) v es, putN name es n) = (es', n')) (hz : es'.length ≤ 1000)
    (h : ∀ h' : Heap, h'.Ns L m → h'.get? dx = some (dictOf es' n') → (∀ b o, b ≠ dx → b ≠ L → s.heap.get? b = some o → h'.get? b = some o) → Q () { s with heap := h', toks := s.toks + 2 }) :
    wpAny (model prog w) A (setAttr (.ref x) name v) Q E s := by
  obtain ⟨e1, e2⟩ := Prod.mk.inj e
  have hdx : s.heap.get? dx = some (dictOf es n) := by
    have := I.dict
    rw [hd] at this
    exact this
  refine set_plain X I hs (osa_dict (s := { s with toks := s.toks + 1 }) (h₀ := noObjs s.heap) (L := L) (m := m) (od := dictOf es n) (od' := dictOf es' n') (es := es') (n := n') (pre := []) (post := ledger s.heap L dx)
    (fr_all hL) (news_ledger hne hdx) X I hd hp ht hh hl (fun _ q => nomatch q) (fun ⟨_, _⟩ q => (mem_ledger.mp q).2.1) (by rw [putName_dict, e1, e2]) rfl hz fun h' F' N' => ?_)
  exact h h' F'.ns (N'.get (List.Mem.head _)) fun b o n1 n2 ho => N'.get (List.Mem.tail _ (mem_ledger.mpr ⟨n2, n1, ho⟩))
end
end Att
namespace L2
open PySem PySem.Spec PyProof.Rows
theorem vals_ints : ∀ {vs : List Value} {ns : List Int}, IntsAre vs ns → Vals (ns.map V.int) vs
  | _, _, .nil => .nil
  | _, _, .cons n t h => .cons ⟨t, rfl⟩ (vals_ints h)
def Only (H : Hp) : Prop := ∀ b, H b = none ∨ ∃ o xs, H b = some (.frz o (.lst xs))
theorem law_call {P : Program} {w : World} {K : PySem.W.Frag} {mg mb : Str → Option Value} {CX : CXT} {k : Nat} {fa a : Addr} {fd : FuncData} {x : Str} {sp : Sp} {s₁ : Shared} {vs : List Value} {ns : List Int}
    (KX : K.In s₁.heap) (hns : s₁.heap.Ns mainGlobals mg) (hb : s₁.heap.Ns builtinsNs mb) (hbb : ∀ x : Str, x ≠ "__name__" → mb x = bootBuiltins x) (hlim : s₁.heap.NoLimit) (hg : s₁.gens = #[])
    (ha : s₁.heap.get? a = some { cls := .type "list", data := .seq vs.toArray }) (hi : IntsAre vs ns) (hl : ns.length ≤ sizeLine) (hr : Room k callerA)
    (F : ∀ base : Heap, K.In base → base.Ns mainGlobals mg → FnOk P w K mg base CX k fa fd [x] sp) (hbind : ∀ (s : Shared) (u : Value), BindsTo s fd ⟨[u], []⟩ [(x, u)])
    (hsp : ∀ H : Hp, Only H → SqL K H a (ns.map V.int) → sp [.ref a] H (fun v _ => v = .bl true) fun _ _ _ => False)
    (hCX : ∀ H e s', CX [] H s₁ (fun _ _ _ => False) e s' → False) :
    codeAny (model P w) callerA (.call (.ref fa) ⟨[.ref a], []⟩) (fun r s' => r = .ok (.ret (.bool true)) ∧ OldK s₁.heap s'.heap ∧ s'.os = s₁.os ∧ AllBare s'.gens) s₁ := by
  have rv := vals_ints hi
  have lenV := hi.length
  -- from an abstract heap in which nothing but the script may be tracked
  have core : ∀ H : Hp, Only H → SqL K H a (ns.map V.int) → HOk P w H s₁.heap → (∀ b, H b ≠ none → b = a) → (H a ≠ none → K.lookup a = none) →
      codeAny (model P w) callerA (.call (.ref fa) ⟨[.ref a], []⟩) (fun r s' => r = .ok (.ret (.bool true)) ∧ OldK s₁.heap s'.heap ∧ s'.os = s₁.os ∧ AllBare s'.gens) s₁ := by
    intro H hO hS hok hA hK
    have base_of : ∀ {b : Addr} {o : Obj}, s₁.heap.get? b = some o → H b = none → (hidT s₁.heap H).get? b = some o := fun e n => hidT_get e n
    have noA : ∀ {b : Addr} {o : Obj} {es : Array DictEntry} {ep : Nat}, s₁.heap.get? b = some o → o.data = .dict es ep → H b = none := fun {b o es ep} e d => by
      cases q : H b with
      | none => rfl
      | some u =>
        have e' : b = a := hA b (by rw [q]; simp)
        subst e'
        rw [ha] at e; cases e
        have d' : Data.seq vs.toArray _ = Data.dict es ep := d
        cases d'
    have nsK : ∀ {b : Addr} {m : Str → Option Value}, s₁.heap.Ns b m → (hidT s₁.heap H).Ns b m := fun {b m} ⟨o, es, ep, e, d, r⟩ => ⟨o, es, ep, base_of e (noA e d), d, r⟩
    have hKb : K.In (hidT s₁.heap H) := fun b o e => base_of (KX b o e) (by
      cases q : H b with
      | none => rfl
      | some u =>
        have e' : b = a := hA b (by rw [q]; simp)
        subst e'
        rw [hK (by rw [q]; simp)] at e; cases e)
    have hM : Mod K mg (hidT s₁.heap H) := ⟨hKb, nsK hns, ⟨mb, nsK hb, hbb⟩, let ⟨mc, h1, h2⟩ := hlim; ⟨mc, nsK h1, h2⟩⟩
    have e0 : Env0 P w K mg (hidT s₁.heap H) callerA [] s₁ H := ⟨rfl, hM, fun b o e => of_hidT e, Nat.le_of_eq (hidT_size _ _), trivial, fun b hb => absurd (show b ∈ ([] : List Addr) from hb) (by simp), hok, .of_eq hg⟩
    refine codeAny_mono ((F _ hKb (nsK hns)).run callerA [] s₁ H ⟨[.ref a], []⟩ [.ref a] [.ref a] _ _ hr e0 (hbind s₁ (.ref a)) (.cons rfl .nil) (hsp H hO hS)) fun r s' h => ?_
    cases r with
    | error e => exact (hCX H e s' h).elim
    | ok fl =>
      cases fl with
      | next => exact False.elim h
      | brk => exact False.elim h
      | cont => exact False.elim h
      | ret u =>
        obtain ⟨v, H', os, bare, un, hok', r', q⟩ := h
        have q' : v = .bl true := q
        subst q'
        obtain rfl : u = Value.bool true := r'
        refine ⟨rfl, OldK.of_keep fun b o e => ?_, os, bare⟩
        cases q : H b with
        | none => exact un.keep b o e q (by intro z; exact absurd (show b ∈ ([] : List Addr) from z) (by simp)) (by simp)
        | some u =>
          rcases hO b with z | ⟨ob, xs, z⟩
          · rw [q] at z; cases z
          · have z2 := un.frzs b ob _ z
            obtain ⟨e1, _⟩ := hok b _ z
            obtain ⟨e2, _⟩ := hok' b _ z2
            rw [e] at e1; cases e1
            exact e2
  cases hk : K.lookup a with
  | some o =>
    -- the script is one of the module's own objects
    have e := KX a o hk
    rw [ha] at e
    cases e
    refine core (fun _ => none) (fun _ => .inl rfl) (.inr ⟨_, vs.toArray, _, hk, rfl, rfl, rfl, by rw [List.size_toArray, lenV]; exact hl, by simpa using rv⟩) (fun b u z => by have z' : (none : Option HO) = some u := z; cases z') (fun b z => absurd rfl z) fun z => absurd rfl z
  | none =>
    refine core (fun b => if b = a then some (.frz { cls := .type "list", data := .seq vs.toArray } (.lst (ns.map V.int))) else none) (fun b => ?_) (.inl (.inr ⟨{ cls := .type "list", data := .seq vs.toArray }, if_pos rfl⟩)) (fun b u z => ?_) (fun b z => ?_) fun _ => hk
    · by_cases hb : b = a
      · exact .inr ⟨_, _, if_pos hb⟩
      · exact .inl (if_neg hb)
    · by_cases hb : b = a
      · have z' := (if_pos hb).symm.trans z
        cases z'
        subst hb
        exact ⟨ha, by rw [List.length_map]; exact hl, vs, _, rv, ha⟩
      · have z' := (if_neg hb).symm.trans z
        cases z'
    · by_cases hb : b = a
      · exact hb
      · exact absurd (if_neg hb) z
end L2
namespace L2
open PySem PySem.Spec PyProof.Rows
abbrev KOf {K : PySem.W.Frag} {h : Heap} (_ : K.In h) : PySem.W.Frag := K
theorem walk_of {l : PySem.W.OpenLaw} {n k : Nat} {q : Program} {loose : List Str} {XP : (Str → Option Value) → Heap → Prop} {YP : World → Heap → Prop} {d : DefRec} {K : Params → PySem.W.Frag} {CX : World → CXT} {sp : World → Sp} {x : Str}
    (hn : l.most = some n) (hn2 : n ≤ sizeLine) (hdf : d.params.defaults = []) (hr : Room k callerA)
    (hY : ∀ (w : World) (h : Heap), YP w h → (K w.params).In h)
    (F : ∀ (w : World) (mg : Str → Option Value) (fa : Addr) (h : Heap), (K w.params).In h → h.Ns mainGlobals mg → mg d.name = some (.ref fa) →
      ∃ fd : FuncData, (∀ (s : Shared) (u : Value), BindsTo s fd ⟨[u], []⟩ [(x, u)]) ∧
        ∀ base : Heap, (K w.params).In base → base.Ns mainGlobals mg → FnOk l.prog w (K w.params) mg base (CX w) k fa fd [x] (sp w))
    (hsp : ∀ (w : World) (H : Hp) (a : Addr) (ns : List Int), ns.length ≤ n → Only H → SqL (K w.params) H a (ns.map V.int) → sp w [.ref a] H (fun v _ => v = .bl true) fun _ _ _ => False)
    (hCX : ∀ (w : World) (H : Hp) (s : Shared) (e : Value) (s' : Shared), CX w [] H s (fun _ _ _ => False) e s' → False) :
    PySem.W.WalkO q loose XP YP l.row.toRowW d [] (fun f vs => PySem.call f vs) := by
  refine Att.attach_call hn hdf fun w s₀ s₁ mg mb fa o pm cd doc a vs ns G Y ho hd hcd hmg hobj hints hlen hg => ?_
  have KX := hY w _ Y
  obtain ⟨fd, hb, hF⟩ := F w mg fa _ KX G.T.g hmg
  exact law_call KX G.T.g G.T.b G.T.builtins G.T.nolimit hg hobj hints (Nat.le_trans hlen hn2) hr hF hb (fun H hO hS => hsp w H a ns hlen hO hS) fun H e s' => hCX w H s₁ e s'
theorem walk_ofK {l : PySem.W.OpenLaw} {n k : Nat} {q : Program} {loose : List Str} {XP : (Str → Option Value) → Heap → Prop} {YP : World → Heap → Prop} {d : DefRec} {K : Params → PySem.W.Frag} {CX : CXT} {sp : PySem.W.Frag → Sp} {x : Str}
    (hn : l.most = some n) (hn2 : n ≤ sizeLine) (hdf : d.params.defaults = []) (hr : Room k callerA)
    (hY : ∀ (w : World) (h : Heap), YP w h → (K w.params).In h)
    (F : ∀ (w : World) (mg : Str → Option Value) (fa : Addr) (h : Heap), (K w.params).In h → h.Ns mainGlobals mg → mg d.name = some (.ref fa) →
      ∃ fd : FuncData, (∀ (s : Shared) (u : Value), BindsTo s fd ⟨[u], []⟩ [(x, u)]) ∧
        ∀ base : Heap, (K w.params).In base → base.Ns mainGlobals mg → FnOk l.prog w (K w.params) mg base CX k fa fd [x] (sp (K w.params)))
    (hsp : ∀ (K : PySem.W.Frag) (H : Hp) (a : Addr) (ns : List Int), ns.length ≤ n → Only H → SqL K H a (ns.map V.int) → sp K [.ref a] H (fun v _ => v = .bl true) fun _ _ _ => False)
    (hCX : ∀ (H : Hp) (s : Shared) (e : Value) (s' : Shared), CX [] H s (fun _ _ _ => False) e s' → False) :
    PySem.W.WalkO q loose XP YP l.row.toRowW d [] (fun f vs => PySem.call f vs) :=
  walk_of (K := K) (CX := fun _ => CX) (sp := fun w => sp (K w.params)) hn hn2 hdf hr hY F (fun w H a ns h1 h2 h3 => hsp (K w.params) H a ns h1 h2 h3) fun _ H s e s' => hCX H s e s'
end L2
/- THE LAST THEOREM (shape; LID, My.* are yours):
   My.Adr: a structure of the addresses that your layer names (classes, functions); My.Txt K t: a structure (Prop) of the equations over K;
   My.txt_mk : {K} {implicit addresses ..} (e1 : nsIn K mainGlobals "law" = some (some (.ref f))) (e2 : K.lookup f = some ⟨oc, od, .func (fnOf "law" "law" params body scope dV kV doc pm an cdv ct), sl⟩) (e3 : codeIn K cdv "law" = true) .. : ∃ t, My.Txt K t
set_option maxRecDepth 100000 in
set_option maxHeartbeats 0 in
theorem PySem.Challenge.cw_LID_holds : PySem.Challenge.rw_LID.Holds := by
  w_on; o_law; k_head; (case hw => w_witness2)
  k_fill
  refine L2.walk_of (l := PySem.Challenge.rw_LID) (n := 63) (k := 40) (x := "script") (CX := fun w => ..) (sp := fun _ => My.sp_law) rfl (by decide) rfl ⟨rfl, by decide, by decide⟩ (fun w h Y => PySem.W.kIn_of Y) ?F ?S ?C
  case F =>
    intro w mg fa h KX G hmg
    have T : ∃ t, My.Txt (L2.KOf KX) t := by
      dsimp only [L2.KOf]                          -- K must stand as «<heap const> w.params» for k_is
      refine' My.txt_mk ?e1 ?e2 ?e3 ..
      (case e1 => PySem.W.k_is)                    -- in the order: a name -> its address -> its object -> its parts
      (case e2 => PySem.W.k_is)
      ..
    obtain ⟨t, T⟩ := T
    have e0 := hmg.symm.trans (PySem.W.mg_of KX G T.law)
    cases e0                                       -- fa is the law's own address
    exact ⟨_, fun s u => .of_eq rfl, fun base kb nb => My.law_fn T kb nb⟩     -- if «.of_eq rfl» comes too early: refine' ⟨_, ?b, fun base kb nb => My.law_fn T kb nb⟩; exact fun s u => .of_eq rfl
  case S => exact fun w H a ns hl hO hS => ..
  case C => exact ..
(the tactic k_is has no namespace: write k_is) -/
namespace L2
open PySem PySem.Spec PyProof.Rows
def inClass (s : Stmt) (j : Nat) : Stmt := match s with
  | .ClassDef _ _ _ body _ _ _ _ _ _ _ => body.getD j (.Pass ⟨0, 0, 0, 0⟩)
  | _ => .Pass ⟨0, 0, 0, 0⟩
def defArgs (s : Stmt) : Arguments := match s with
  | .FunctionDef _ a _ _ _ _ _ _ _ _ => a
  | _ => { posonlyargs := [], args := [], vararg := none, kwonlyargs := [], kw_defaults := [], kwarg := none, defaults := [] }
def defBody (s : Stmt) : List Stmt := match s with
  | .FunctionDef _ _ b _ _ _ _ _ _ _ => b
  | _ => []
def defScope (s : Stmt) : Scope := match s with
  | .FunctionDef _ _ _ _ _ _ sc _ _ _ => sc
  | _ => { kind := .function, names := [], isGenerator := false, isCoroutine := false }
abbrev CX0 : CXT := fun _ _ _ _ _ _ => False
abbrev E0 : XK := fun _ _ _ => False
theorem pass0 {X : Cx} : Passes CX0 X E0 := fun _ _ _ _ _ _ _ h => h.elim
structure Fun (K : PySem.W.Frag) (x qual : Str) (st : Stmt) (f : Addr) (fd : FuncData) : Prop where
  ex : ∃ (oc : Value) (od : Option Addr) (kV doc pm : Value) (an : Option Addr) (cdv ct : Value) (osl : Array (Option Value)),
    fd = PySem.W.fnOf x qual (defArgs st) (defBody st) (defScope st) .none kV doc pm an cdv ct ∧ K.lookup f = some ⟨oc, od, .func fd, osl⟩ ∧ PySem.W.codeIn K cdv qual = true
  kp : PySem.W.keepIn K (.ref f) = true
section
variable {P : Program} {w : World} {K : PySem.W.Frag} {mg : Str → Option Value} {base : Heap}
theorem Fun.ok {x qual : Str} {st : Stmt} {f : Addr} {fd : FuncData} {N ps : List Str} {k : Nat} {sp : Sp} (F : Fun K x qual st f fd) (S : FnScope N ps (defScope st)) (len : ∀ vs H Q E, sp vs H Q E → vs.length = ps.length)
    (hbody : ∀ (cdv : Value) (A : Around) (outer : List Env) (s : Shared) (H : Hp) (vs : List V) (Q : VK) (E : XK), Room k (A.deeper (envOfC qual (defScope st) s.heap.objs.size f cdv)) → sp vs H Q E →
      ∃ t, PSs (cxOf CX0 P w K mg base N qual (defScope st) f cdv A outer s H E).nox (defBody st) t ∧ t { nx := fun _ H' => Q .non H', rt := Q } (start N vs) H) : FnOk P w K mg base CX0 (k + 1) f fd ps sp := by
  obtain ⟨oc, od, kV, doc, pm, an, cdv, ct, osl, rfl, lk, hcd⟩ := F.ex
  refine fn_of lk hcd S len fun A outer s H vs Q E hr hsp => ?_
  obtain ⟨t, h, q⟩ := hbody cdv A outer s H vs Q E hr hsp
  exact ⟨t, h.nox, q⟩
theorem Fun.binds {x qual : Str} {st : Stmt} {f : Addr} {fd : FuncData} {ps : List Str} (F : Fun K x qual st f fd)
    (h : ∀ (kV doc pm : Value) (an : Option Addr) (cdv ct : Value) (us : List Value), us.length = ps.length → bindArgs (PySem.W.fnOf x qual (defArgs st) (defBody st) (defScope st) .none kV doc pm an cdv ct) ⟨us, []⟩ = pure (ps.zip us)) : Binds K fd ps [] := by
  obtain ⟨oc, od, kV, doc, pm, an, cdv, ct, osl, rfl, lk, hcd⟩ := F.ex
  exact .all (h kV doc pm an cdv ct)
theorem fun_mk {x qual : Str} {st : Stmt} {f : Addr} {oc : Value} {od an : Option Addr} {osl : Array (Option Value)} {kV doc pm cdv ct : Value} (l : K.lookup f = some ⟨oc, od, .func (PySem.W.fnOf x qual (defArgs st) (defBody st) (defScope st) .none kV doc pm an cdv ct), osl⟩)
    (c : PySem.W.codeIn K cdv qual = true) (k : PySem.W.keepIn K (.ref f) = true) : Fun K x qual st f (PySem.W.fnOf x qual (defArgs st) (defBody st) (defScope st) .none kV doc pm an cdv ct) := ⟨⟨oc, od, kV, doc, pm, an, cdv, ct, osl, rfl, l, c⟩, k⟩
end
theorem hu_of {A : Around} {k : Nat} (hr : Room k A) : A.units + 1 < cLine := Nat.lt_of_le_of_lt (Nat.add_le_add_left (by decide : 1 ≤ 64) _) hr.units
theorem small1000 {n : Nat} (h : n ≤ 1000) : n < sizeLine := Nat.lt_of_le_of_lt h (by decide)
section
variable {X : Cx}
theorem pv (i : Nat) {x : Str} {pos : Pos} (hN : X.N[i]? = some x := by rfl) (hv : Vis X.env.scope x := by first | exact Or.inl rfl | exact Or.inr (Or.inl rfl) | exact Or.inr (Or.inr rfl)) (hd : (x == ("__debug__" : Str)) = false := by decide)
    (hcd : (x == ("__classdict__" : Str)) = false := by decide) : PE X (.Name x pos) (tVar i) := pe_var hN hv hd hcd
end
theorem iteF {A B : Prop} (h : B) : if false = true then A else B := by
  rw [if_neg Bool.false_ne_true]
  exact h
theorem iteT {A B : Prop} (h : A) : if true = true then A else B := by
  rw [if_pos rfl]
  exact h
theorem ite2 {c A B : Prop} [Decidable c] (h1 : c → A) (h2 : ¬ c → B) : if c then A else B := by
  by_cases h : c
  · rw [if_pos h]
    exact h1 h
  · rw [if_neg h]
    exact h2 h
theorem iteNS {c A B : Prop} [Decidable c] (hc : c) (h : B) : if (!decide c) = true then A else B := by
  rw [decide_eq_true hc]
  exact iteF h
def Same (H H' : Hp) : Prop := ∀ b o, H b = some o → H' b = some o
theorem Same.refl (H : Hp) : Same H H := fun _ _ h => h
theorem Same.trans {H H1 H2 : Hp} (a : Same H H1) (b : Same H1 H2) : Same H H2 := fun c o h => b c o (a c o h)
theorem Same.free {H H' : Hp} (e : Same H H') {l : Addr} (h : H' l = Option.none) : H l = Option.none := by
  cases q : H l with
  | none => rfl
  | some o =>
    rw [e l o q] at h
    cases h
theorem Same.seq {K : PySem.W.Frag} {H H' : Hp} {a : Addr} {xs : List V} (e : Same H H') (h : SqL K H a xs) : SqL K H' a xs := by
  rcases h with (h | ⟨o, h⟩) | h
  · exact .inl (.inl (e _ _ h))
  · exact .inl (.inr ⟨o, e _ _ h⟩)
  · exact .inr h
end L2
set_option Elab.async false
set_option linter.all false
set_option maxRecDepth 100000
set_option maxHeartbeats 4000000
namespace L2
open PySem PySem.Spec PyProof.Rows
section
variable {X : Cx}
def CBig (i j : Int) : Prop := i.natAbs < 2 ^ 1000000 ∧ j.natAbs < 2 ^ 1000000
theorem CBig.ok {i j : Int} (h : CBig i j) : IntMulOk i j :=
  PySem.IntMulOk.of_le (PySem.intBits_le_iff.mpr h.1) (PySem.intBits_le_iff.mpr h.2) (by decide)
theorem op_mulB : OpR X (binaryOp .Mult) (rI CBig fun i j => .int (i * j)) := opI fun _ _ _ _ _ _ _ hc q => mul_int q hc.ok
def CDivB (_i j : Int) : Prop := j ≠ 0 ∧ j.natAbs < 2 ^ 8999
theorem op_fdivB : OpR X (binaryOp .FloorDiv) (rI CDivB fun i j => .int (i.fdiv j)) := opI fun _ j _ _ _ _ _ hc q => by
  refine floordiv_int hc.1 q (.inl (PyProof.noPylong_of_log2 ?_))
  have h0 : j.natAbs ≠ 0 := by have := hc.1; omega
  have := (Nat.log2_lt h0).mpr hc.2
  omega
theorem bt_abs : bootBuiltins "abs" = some (.builtin "abs") := by decide +kernel
theorem bt_len : bootBuiltins "len" = some (.builtin "len") := by decide +kernel
theorem bt_isinstance : bootBuiltins "isinstance" = some (.builtin "isinstance") := by decide +kernel
theorem bt_int : bootBuiltins "int" = some (.type "int") := by decide +kernel
theorem bt_bool : bootBuiltins "bool" = some (.type "bool") := by decide +kernel
theorem bt_tuple : bootBuiltins "tuple" = some (.type "tuple") := by decide +kernel
theorem bt_list : bootBuiltins "list" = some (.type "list") := by decide +kernel
theorem bt_str : bootBuiltins "str" = some (.type "str") := by decide +kernel
theorem bt_range : bootBuiltins "range" = some (.type "range") := by decide +kernel
def dictO (a : Addr) : HO := .ext fun h => ∃ o, h.get? a = some o ∧ o.cls = .type "dict"
def tDict0 : TE := fun _ H Q => ∀ p, H p = none → Q (.ref p) (upd H p (dictO p))
theorem pe_dict0 {X : Cx} {pos : Pos} : PE X (.Dict [] [] pos) tDict0 := fun pins s σ H Q I h =>
  wpAny_Dict_empty ⟨.ref s.heap.objs.size, _, I.laid (a := s.heap.objs.size) (o := dictO _) (t' := s.toks) (fun _ _ q => Heap.get?_push_of_some _ q) (Nat.le_refl _)
    ⟨⟨_, Heap.get?_push_size _ rfl, rfl⟩, ⟨_, Heap.get?_push_size _ rfl⟩, fun h1 h2 ⟨o, e, c⟩ k => ⟨o, k o e, c⟩⟩, rfl, h _ (I.hok.fresh (Nat.le_refl _))⟩
def tyN (K : PySem.W.Frag) (H : Hp) (x : V) (T : String) : Prop := match x with
  | .non => T = "NoneType"
  | .bl _ => T = "bool"
  | .int _ => T = "int"
  | .str _ => T = "str"
  | .ref p => (T = "list" ∧ ∃ xs, SqL K H p xs) ∨ (T = "tuple" ∧ ∃ xs, SqT K H p xs) ∨ (T = "dict" ∧ H p = some (dictO p))
  | _ => False
theorem tyN_is {pins : List (Addr × Obj)} {σ : St} {H : Hp} {s : Shared} {T : String} {x : V} {v : Value} (I : Inv X pins σ H s) (r : RelV x v) (ty : tyN X.K H x T) : s.TypeIs v T := by
  cases x with
  | non => cases r; cases (show T = "NoneType" from ty); rfl
  | bl b => cases r; cases (show T = "bool" from ty); rfl
  | int i => obtain ⟨t, rfl⟩ := r; cases (show T = "int" from ty); exact typeIs_int s i t
  | str z => obtain ⟨t, rfl⟩ := r; cases (show T = "str" from ty); exact typeIs_str s z t
  | ref p =>
    cases r
    rcases ty with ⟨rfl, xs, hq⟩ | ⟨rfl, xs, hq⟩ | ⟨rfl, hq⟩
    · obtain ⟨its, _, pl, _⟩ := I.list hq
      exact pl.isList.typeIs
    · obtain ⟨its, _, ⟨o, e, c, _⟩, _⟩ := I.tuple hq
      exact ⟨o, e, c⟩
    · obtain ⟨⟨o, e, c⟩, _⟩ := I.hok p _ hq
      exact ⟨o, e, c⟩
  | _ => exact False.elim ty
theorem isi_gen {pins : List (Addr × Obj)} {σ : St} {H : Hp} {s : Shared} {Tx T : String} {b : Bool} {x : V} {v : Value} {Q : VK} (hne : b = false → (Value.type Tx == Value.type T) = false)
    (hty : typeOf (.type T) = pure (.type "type")) (hsub : isSubtype (.type Tx) (.type T) = pure b) (I : Inv X pins σ H s) (r : RelV x v) (ht : tyN X.K H x Tx) (q : Q (.bl b) H) :
    wpAny (model X.prog X.w) X.A (call (.builtin "isinstance") [v, .type T]) (EP X pins σ Q) X.xe s := by
  cases b with
  | true => exact call_isinstance_yes (tyN_is I r ht) hty hsub ⟨.bl true, H, I, rfl, q⟩
  | false =>
    have hq : EP X pins σ Q (.bool false) { s with toks := s.toks + 1 } := ⟨.bl false, H, I.tok _, rfl, q⟩
    cases x with
    | non => cases r; cases (show Tx = "NoneType" from ht); exact call_isinstance (isinstance_false_none (hne rfl) hty hsub) hq
    | bl b => cases r; cases (show Tx = "bool" from ht); exact call_isinstance (isinstance_false_bool (hne rfl) hty hsub) hq
    | int i => obtain ⟨t, rfl⟩ := r; cases (show Tx = "int" from ht); exact call_isinstance (isinstance_false_int (hne rfl) hty hsub) hq
    | str z => obtain ⟨t, rfl⟩ := r; cases (show Tx = "str" from ht); exact call_isinstance (isinstance_false_str (hne rfl) hty hsub) hq
    | ref p =>
      have ty := tyN_is I r ht
      cases r
      rcases ht with ⟨rfl, xs, hs⟩ | ⟨rfl, xs, hs⟩ | ⟨rfl, hs⟩
      · exact call_isinstance (isinstance_false_list (hne rfl) hty hsub) ⟨ty, hq⟩
      · exact call_isinstance (isinstance_false_tuple (hne rfl) hty hsub) ⟨ty, hq⟩
      · exact call_isinstance (isinstance_false_dict (hne rfl) hty hsub) ⟨ty, hq⟩
    | _ => exact False.elim ht
def isiB (Tx T : String) : Bool := (Tx == T) || (Tx == "bool" && T == "int")
theorem meta_int : typeOf (.type "int") = pure (.type "type") := by kernel_rfl
theorem meta_bool : typeOf (.type "bool") = pure (.type "type") := by kernel_rfl
theorem meta_tuple : typeOf (.type "tuple") = pure (.type "type") := by kernel_rfl
theorem meta_list : typeOf (.type "list") = pure (.type "type") := by kernel_rfl
theorem meta_str : typeOf (.type "str") = pure (.type "type") := by kernel_rfl
theorem tyN_in {K : PySem.W.Frag} {H : Hp} {x : V} {T : String} (h : tyN K H x T) : T = "NoneType" ∨ T = "bool" ∨ T = "int" ∨ T = "str" ∨ T = "list" ∨ T = "tuple" ∨ T = "dict" := by
  cases x with
  | non => exact .inl h
  | bl b => exact .inr (.inl h)
  | int i => exact .inr (.inr (.inl h))
  | str z => exact .inr (.inr (.inr (.inl h)))
  | ref p =>
    rcases h with ⟨h, _⟩ | ⟨h, _⟩ | ⟨h, _⟩
    · exact .inr (.inr (.inr (.inr (.inl h))))
    · exact .inr (.inr (.inr (.inr (.inr (.inl h)))))
    · exact .inr (.inr (.inr (.inr (.inr (.inr h)))))
  | _ => exact False.elim h
def rIsi (K : PySem.W.Frag) (T : String) : List V → Hp → VK → Prop := fun xs H Q => ∃ x Tx, xs = [x, .ty T] ∧ tyN K H x Tx ∧ Q (.bl (isiB Tx T)) H
theorem isi_T {T : String} (hty : typeOf (.type T) = pure (.type "type")) (h1 : isSubtype (.type "NoneType") (.type T) = pure (isiB "NoneType" T)) (h2 : isSubtype (.type "bool") (.type T) = pure (isiB "bool" T)) (h3 : isSubtype (.type "int") (.type T) = pure (isiB "int" T))
    (h4 : isSubtype (.type "str") (.type T) = pure (isiB "str" T)) (h5 : isSubtype (.type "list") (.type T) = pure (isiB "list" T)) (h6 : isSubtype (.type "tuple") (.type T) = pure (isiB "tuple" T)) (h7 : isSubtype (.type "dict") (.type T) = pure (isiB "dict" T))
    (hn : ∀ Tx ∈ ["NoneType", "bool", "int", "str", "list", "tuple", "dict"], isiB Tx T = false → (Value.type Tx == Value.type T) = false) : CallR X (.builtin "isinstance") (rIsi X.K T) := by
  intro pins s σ H xs us Q I r h
  obtain ⟨x, Tx, rfl, ht, q⟩ := h
  obtain ⟨u, w', rfl, ru, rw'⟩ := vals2 r
  cases rw'
  rcases tyN_in ht with rfl | rfl | rfl | rfl | rfl | rfl | rfl
  · exact isi_gen (hn _ (by simp)) hty h1 I ru ht q
  · exact isi_gen (hn _ (by simp)) hty h2 I ru ht q
  · exact isi_gen (hn _ (by simp)) hty h3 I ru ht q
  · exact isi_gen (hn _ (by simp)) hty h4 I ru ht q
  · exact isi_gen (hn _ (by simp)) hty h5 I ru ht q
  · exact isi_gen (hn _ (by simp)) hty h6 I ru ht q
  · exact isi_gen (hn _ (by simp)) hty h7 I ru ht q
theorem call_isi_int : CallR X (.builtin "isinstance") (rIsi X.K "int") := isi_T meta_int (by rw [isSubtype_type]; kernel_rfl) (by rw [isSubtype_type]; kernel_rfl) (by rw [isSubtype_type]; kernel_rfl) (by rw [isSubtype_type]; kernel_rfl) (by rw [isSubtype_type]; kernel_rfl) (by rw [isSubtype_type]; kernel_rfl) (by rw [isSubtype_type]; kernel_rfl) (by decide +kernel)
theorem call_isi_bool : CallR X (.builtin "isinstance") (rIsi X.K "bool") := isi_T meta_bool (by rw [isSubtype_type]; kernel_rfl) (by rw [isSubtype_type]; kernel_rfl) (by rw [isSubtype_type]; kernel_rfl) (by rw [isSubtype_type]; kernel_rfl) (by rw [isSubtype_type]; kernel_rfl) (by rw [isSubtype_type]; kernel_rfl) (by rw [isSubtype_type]; kernel_rfl) (by decide +kernel)
theorem call_isi_tuple : CallR X (.builtin "isinstance") (rIsi X.K "tuple") := isi_T meta_tuple (by rw [isSubtype_type]; kernel_rfl) (by rw [isSubtype_type]; kernel_rfl) (by rw [isSubtype_type]; kernel_rfl) (by rw [isSubtype_type]; kernel_rfl) (by rw [isSubtype_type]; kernel_rfl) (by rw [isSubtype_type]; kernel_rfl) (by rw [isSubtype_type]; kernel_rfl) (by decide +kernel)
theorem call_isi_list : CallR X (.builtin "isinstance") (rIsi X.K "list") := isi_T meta_list (by rw [isSubtype_type]; kernel_rfl) (by rw [isSubtype_type]; kernel_rfl) (by rw [isSubtype_type]; kernel_rfl) (by rw [isSubtype_type]; kernel_rfl) (by rw [isSubtype_type]; kernel_rfl) (by rw [isSubtype_type]; kernel_rfl) (by rw [isSubtype_type]; kernel_rfl) (by decide +kernel)
theorem call_isi_str : CallR X (.builtin "isinstance") (rIsi X.K "str") := isi_T meta_str (by rw [isSubtype_type]; kernel_rfl) (by rw [isSubtype_type]; kernel_rfl) (by rw [isSubtype_type]; kernel_rfl) (by rw [isSubtype_type]; kernel_rfl) (by rw [isSubtype_type]; kernel_rfl) (by rw [isSubtype_type]; kernel_rfl) (by rw [isSubtype_type]; kernel_rfl) (by decide +kernel)
end
end L2
set_option Elab.async false
set_option linter.all false
set_option maxRecDepth 100000
set_option maxHeartbeats 4000000
namespace L2
open PySem PySem.Spec PyProof.Rows
theorem cx_K {CX : CXT} {P : Program} {w : World} {K : PySem.W.Frag} {mg : Str → Option Value} {base : Heap} {N : List Str} {qual : Str} {scope : Scope} {f : Addr} {cd : Value} {A : Around} {outer : List Env} {s : Shared} {H : Hp} {E : XK} :
    (cxOf CX P w K mg base N qual scope f cd A outer s H E).K = K := rfl
theorem tyN_non {K : PySem.W.Frag} {H : Hp} {T : String} : tyN K H .non T = (T = "NoneType") := rfl
theorem tyN_bl {K : PySem.W.Frag} {H : Hp} {T : String} {b : Bool} : tyN K H (.bl b) T = (T = "bool") := rfl
theorem tyN_int {K : PySem.W.Frag} {H : Hp} {T : String} {i : Int} : tyN K H (.int i) T = (T = "int") := rfl
theorem tyN_str {K : PySem.W.Frag} {H : Hp} {T : String} {x : Str} : tyN K H (.str x) T = (T = "str") := rfl
theorem tyN_tup {K : PySem.W.Frag} {H : Hp} {p : Addr} {xs : List V} (h : SqT K H p xs) : tyN K H (.ref p) "tuple" := .inr (.inl ⟨rfl, xs, h⟩)
theorem tyN_lst {K : PySem.W.Frag} {H : Hp} {p : Addr} {xs : List V} (h : SqL K H p xs) : tyN K H (.ref p) "list" := .inl ⟨rfl, xs, h⟩
theorem tyN_dict {K : PySem.W.Frag} {H : Hp} {p : Addr} (h : H p = some (dictO p)) : tyN K H (.ref p) "dict" := .inr (.inr ⟨rfl, h⟩)
theorem isi_ii : isiB "int" "int" = true := by decide +kernel
theorem isi_ib : isiB "int" "bool" = false := by decide +kernel
theorem isi_it : isiB "int" "tuple" = false := by decide +kernel
theorem isi_il : isiB "int" "list" = false := by decide +kernel
theorem isi_bi : isiB "bool" "int" = true := by decide +kernel
theorem isi_bb : isiB "bool" "bool" = true := by decide +kernel
theorem isi_ni : isiB "NoneType" "int" = false := by decide +kernel
theorem isi_si : isiB "str" "int" = false := by decide +kernel
theorem isi_ti : isiB "tuple" "int" = false := by decide +kernel
theorem isi_li : isiB "list" "int" = false := by decide +kernel
theorem isi_di : isiB "dict" "int" = false := by decide +kernel
theorem isi_tt : isiB "tuple" "tuple" = true := by decide +kernel
theorem isi_ll : isiB "list" "list" = true := by decide +kernel
theorem scal_ii {i j : Int} : scal (.int i) (.int j) = true := rfl
theorem scal_bb {i j : Bool} : scal (.bl i) (.bl j) = true := rfl
theorem Same.tup {K : PySem.W.Frag} {H H' : Hp} {a : Addr} {xs : List V} (e : Same H H') (h : SqT K H a xs) : SqT K H' a xs := by
  rcases h with (h | ⟨o, h⟩) | h
  · exact .inl (.inl (e _ _ h))
  · exact .inl (.inr ⟨o, e _ _ h⟩)
  · exact .inr h
theorem same_new {H : Hp} {p : Addr} (h : H p = none) (o : HO) : Same H (upd H p o) := fun b u q => by rw [upd_ne (ne_of_none q h)]; exact q
theorem cbig {i j : Int} {m n : Nat} (h1 : i.natAbs < 2 ^ m) (h2 : j.natAbs < 2 ^ n) (hm : m ≤ 1000000 := by decide) (hn : n ≤ 1000000 := by decide) : CBig i j :=
  ⟨Nat.lt_of_lt_of_le h1 (Nat.pow_le_pow_right (by decide) hm), Nat.lt_of_lt_of_le h2 (Nat.pow_le_pow_right (by decide) hn)⟩
theorem cdivb {i j : Int} {n : Nat} (h0 : j ≠ 0) (h : j.natAbs < 2 ^ n) (hn : n ≤ 8999 := by decide) : CDivB i j := ⟨h0, Nat.lt_of_lt_of_le h (Nat.pow_le_pow_right (by decide) hn)⟩
def getI (σ : St) (i : Nat) : Int := match σ[i]? with
  | some (some (.int x)) => x
  | _ => 0
theorem sz0 : (0 ≤ sizeLine) = True := eq_true (by decide)
theorem sz1 : (1 ≤ sizeLine) = True := eq_true (by decide)
theorem sz2 : (2 ≤ sizeLine) = True := eq_true (by decide)
theorem sz3 : (3 ≤ sizeLine) = True := eq_true (by decide)
theorem sz4 : (4 ≤ sizeLine) = True := eq_true (by decide)
def NS (e : Expr) : Prop := ∀ es env, starEach (e :: es) env = (false, eval e env) :: starEach es env
theorem ns_Constant {a b c} : NS (Expr.Constant a b c) := fun _ _ => rfl
theorem ns_Name {a b} : NS (Expr.Name a b) := fun _ _ => rfl
theorem ns_Call {a b c d} : NS (Expr.Call a b c d) := fun _ _ => rfl
theorem ns_BinOp {a b c d} : NS (Expr.BinOp a b c d) := fun _ _ => rfl
theorem ns_UnaryOp {a b c} : NS (Expr.UnaryOp a b c) := fun _ _ => rfl
theorem ns_Tuple {a b c} : NS (Expr.Tuple a b c) := fun _ _ => rfl
theorem ns_List {a b} : NS (Expr.List a b) := fun _ _ => rfl
theorem ns_Dict {a b c} : NS (Expr.Dict a b c) := fun _ _ => rfl
theorem ns_Subscript {a b c} : NS (Expr.Subscript a b c) := fun _ _ => rfl
theorem ns_Compare {a b c d} : NS (Expr.Compare a b c d) := fun _ _ => rfl
theorem ns_BoolOp {a b c} : NS (Expr.BoolOp a b c) := fun _ _ => rfl
theorem ns_IfExp {a b c d} : NS (Expr.IfExp a b c d) := fun _ _ => rfl
theorem ns_Attribute {a b c} : NS (Expr.Attribute a b c) := fun _ _ => rfl
theorem ns_ListComp {a b c d} : NS (Expr.ListComp a b c d) := fun _ _ => rfl
theorem ns_JoinedStr {a b} : NS (Expr.JoinedStr a b) := fun _ _ => rfl
theorem ns_Lambda {a b c d} : NS (Expr.Lambda a b c d) := fun _ _ => rfl
section
variable {X : Cx}
theorem pa1 {e1 : Expr} {t1 : TE} (h1 : PE X e1 t1) (n1 : NS e1) : PA X [e1] (tCons t1 tNil) := (pa_cons h1 pa_nil (n1 _ _))
theorem pa2 {e1 e2 : Expr} {t1 t2 : TE} (h1 : PE X e1 t1) (n1 : NS e1) (h2 : PE X e2 t2) (n2 : NS e2) : PA X [e1, e2] (tCons t1 (tCons t2 tNil)) := (pa_cons h1 (pa_cons h2 pa_nil (n2 _ _)) (n1 _ _))
theorem pa3 {e1 e2 e3 : Expr} {t1 t2 t3 : TE} (h1 : PE X e1 t1) (n1 : NS e1) (h2 : PE X e2 t2) (n2 : NS e2) (h3 : PE X e3 t3) (n3 : NS e3) : PA X [e1, e2, e3] (tCons t1 (tCons t2 (tCons t3 tNil))) := (pa_cons h1 (pa_cons h2 (pa_cons h3 pa_nil (n3 _ _)) (n2 _ _)) (n1 _ _))
theorem pa4 {e1 e2 e3 e4 : Expr} {t1 t2 t3 t4 : TE} (h1 : PE X e1 t1) (n1 : NS e1) (h2 : PE X e2 t2) (n2 : NS e2) (h3 : PE X e3 t3) (n3 : NS e3) (h4 : PE X e4 t4) (n4 : NS e4) : PA X [e1, e2, e3, e4] (tCons t1 (tCons t2 (tCons t3 (tCons t4 tNil)))) := (pa_cons h1 (pa_cons h2 (pa_cons h3 (pa_cons h4 pa_nil (n4 _ _)) (n3 _ _)) (n2 _ _)) (n1 _ _))
theorem pa5 {e1 e2 e3 e4 e5 : Expr} {t1 t2 t3 t4 t5 : TE} (h1 : PE X e1 t1) (n1 : NS e1) (h2 : PE X e2 t2) (n2 : NS e2) (h3 : PE X e3 t3) (n3 : NS e3) (h4 : PE X e4 t4) (n4 : NS e4) (h5 : PE X e5 t5) (n5 : NS e5) : PA X [e1, e2, e3, e4, e5] (tCons t1 (tCons t2 (tCons t3 (tCons t4 (tCons t5 tNil))))) := (pa_cons h1 (pa_cons h2 (pa_cons h3 (pa_cons h4 (pa_cons h5 pa_nil (n5 _ _)) (n4 _ _)) (n3 _ _)) (n2 _ _)) (n1 _ _))
theorem pa6 {e1 e2 e3 e4 e5 e6 : Expr} {t1 t2 t3 t4 t5 t6 : TE} (h1 : PE X e1 t1) (n1 : NS e1) (h2 : PE X e2 t2) (n2 : NS e2) (h3 : PE X e3 t3) (n3 : NS e3) (h4 : PE X e4 t4) (n4 : NS e4) (h5 : PE X e5 t5) (n5 : NS e5) (h6 : PE X e6 t6) (n6 : NS e6) : PA X [e1, e2, e3, e4, e5, e6] (tCons t1 (tCons t2 (tCons t3 (tCons t4 (tCons t5 (tCons t6 tNil)))))) := (pa_cons h1 (pa_cons h2 (pa_cons h3 (pa_cons h4 (pa_cons h5 (pa_cons h6 pa_nil (n6 _ _)) (n5 _ _)) (n4 _ _)) (n3 _ _)) (n2 _ _)) (n1 _ _))
theorem pa7 {e1 e2 e3 e4 e5 e6 e7 : Expr} {t1 t2 t3 t4 t5 t6 t7 : TE} (h1 : PE X e1 t1) (n1 : NS e1) (h2 : PE X e2 t2) (n2 : NS e2) (h3 : PE X e3 t3) (n3 : NS e3) (h4 : PE X e4 t4) (n4 : NS e4) (h5 : PE X e5 t5) (n5 : NS e5) (h6 : PE X e6 t6) (n6 : NS e6) (h7 : PE X e7 t7) (n7 : NS e7) : PA X [e1, e2, e3, e4, e5, e6, e7] (tCons t1 (tCons t2 (tCons t3 (tCons t4 (tCons t5 (tCons t6 (tCons t7 tNil))))))) := (pa_cons h1 (pa_cons h2 (pa_cons h3 (pa_cons h4 (pa_cons h5 (pa_cons h6 (pa_cons h7 pa_nil (n7 _ _)) (n6 _ _)) (n5 _ _)) (n4 _ _)) (n3 _ _)) (n2 _ _)) (n1 _ _))
theorem pa8 {e1 e2 e3 e4 e5 e6 e7 e8 : Expr} {t1 t2 t3 t4 t5 t6 t7 t8 : TE} (h1 : PE X e1 t1) (n1 : NS e1) (h2 : PE X e2 t2) (n2 : NS e2) (h3 : PE X e3 t3) (n3 : NS e3) (h4 : PE X e4 t4) (n4 : NS e4) (h5 : PE X e5 t5) (n5 : NS e5) (h6 : PE X e6 t6) (n6 : NS e6) (h7 : PE X e7 t7) (n7 : NS e7) (h8 : PE X e8 t8) (n8 : NS e8) : PA X [e1, e2, e3, e4, e5, e6, e7, e8] (tCons t1 (tCons t2 (tCons t3 (tCons t4 (tCons t5 (tCons t6 (tCons t7 (tCons t8 tNil)))))))) := (pa_cons h1 (pa_cons h2 (pa_cons h3 (pa_cons h4 (pa_cons h5 (pa_cons h6 (pa_cons h7 (pa_cons h8 pa_nil (n8 _ _)) (n7 _ _)) (n6 _ _)) (n5 _ _)) (n4 _ _)) (n3 _ _)) (n2 _ _)) (n1 _ _))
theorem pa9 {e1 e2 e3 e4 e5 e6 e7 e8 e9 : Expr} {t1 t2 t3 t4 t5 t6 t7 t8 t9 : TE} (h1 : PE X e1 t1) (n1 : NS e1) (h2 : PE X e2 t2) (n2 : NS e2) (h3 : PE X e3 t3) (n3 : NS e3) (h4 : PE X e4 t4) (n4 : NS e4) (h5 : PE X e5 t5) (n5 : NS e5) (h6 : PE X e6 t6) (n6 : NS e6) (h7 : PE X e7 t7) (n7 : NS e7) (h8 : PE X e8 t8) (n8 : NS e8) (h9 : PE X e9 t9) (n9 : NS e9) : PA X [e1, e2, e3, e4, e5, e6, e7, e8, e9] (tCons t1 (tCons t2 (tCons t3 (tCons t4 (tCons t5 (tCons t6 (tCons t7 (tCons t8 (tCons t9 tNil))))))))) := (pa_cons h1 (pa_cons h2 (pa_cons h3 (pa_cons h4 (pa_cons h5 (pa_cons h6 (pa_cons h7 (pa_cons h8 (pa_cons h9 pa_nil (n9 _ _)) (n8 _ _)) (n7 _ _)) (n6 _ _)) (n5 _ _)) (n4 _ _)) (n3 _ _)) (n2 _ _)) (n1 _ _))
theorem pa10 {e1 e2 e3 e4 e5 e6 e7 e8 e9 e10 : Expr} {t1 t2 t3 t4 t5 t6 t7 t8 t9 t10 : TE} (h1 : PE X e1 t1) (n1 : NS e1) (h2 : PE X e2 t2) (n2 : NS e2) (h3 : PE X e3 t3) (n3 : NS e3) (h4 : PE X e4 t4) (n4 : NS e4) (h5 : PE X e5 t5) (n5 : NS e5) (h6 : PE X e6 t6) (n6 : NS e6) (h7 : PE X e7 t7) (n7 : NS e7) (h8 : PE X e8 t8) (n8 : NS e8) (h9 : PE X e9 t9) (n9 : NS e9) (h10 : PE X e10 t10) (n10 : NS e10) : PA X [e1, e2, e3, e4, e5, e6, e7, e8, e9, e10] (tCons t1 (tCons t2 (tCons t3 (tCons t4 (tCons t5 (tCons t6 (tCons t7 (tCons t8 (tCons t9 (tCons t10 tNil)))))))))) := (pa_cons h1 (pa_cons h2 (pa_cons h3 (pa_cons h4 (pa_cons h5 (pa_cons h6 (pa_cons h7 (pa_cons h8 (pa_cons h9 (pa_cons h10 pa_nil (n10 _ _)) (n9 _ _)) (n8 _ _)) (n7 _ _)) (n6 _ _)) (n5 _ _)) (n4 _ _)) (n3 _ _)) (n2 _ _)) (n1 _ _))
theorem pa11 {e1 e2 e3 e4 e5 e6 e7 e8 e9 e10 e11 : Expr} {t1 t2 t3 t4 t5 t6 t7 t8 t9 t10 t11 : TE} (h1 : PE X e1 t1) (n1 : NS e1) (h2 : PE X e2 t2) (n2 : NS e2) (h3 : PE X e3 t3) (n3 : NS e3) (h4 : PE X e4 t4) (n4 : NS e4) (h5 : PE X e5 t5) (n5 : NS e5) (h6 : PE X e6 t6) (n6 : NS e6) (h7 : PE X e7 t7) (n7 : NS e7) (h8 : PE X e8 t8) (n8 : NS e8) (h9 : PE X e9 t9) (n9 : NS e9) (h10 : PE X e10 t10) (n10 : NS e10) (h11 : PE X e11 t11) (n11 : NS e11) : PA X [e1, e2, e3, e4, e5, e6, e7, e8, e9, e10, e11] (tCons t1 (tCons t2 (tCons t3 (tCons t4 (tCons t5 (tCons t6 (tCons t7 (tCons t8 (tCons t9 (tCons t10 (tCons t11 tNil))))))))))) := (pa_cons h1 (pa_cons h2 (pa_cons h3 (pa_cons h4 (pa_cons h5 (pa_cons h6 (pa_cons h7 (pa_cons h8 (pa_cons h9 (pa_cons h10 (pa_cons h11 pa_nil (n11 _ _)) (n10 _ _)) (n9 _ _)) (n8 _ _)) (n7 _ _)) (n6 _ _)) (n5 _ _)) (n4 _ _)) (n3 _ _)) (n2 _ _)) (n1 _ _))
theorem pa12 {e1 e2 e3 e4 e5 e6 e7 e8 e9 e10 e11 e12 : Expr} {t1 t2 t3 t4 t5 t6 t7 t8 t9 t10 t11 t12 : TE} (h1 : PE X e1 t1) (n1 : NS e1) (h2 : PE X e2 t2) (n2 : NS e2) (h3 : PE X e3 t3) (n3 : NS e3) (h4 : PE X e4 t4) (n4 : NS e4) (h5 : PE X e5 t5) (n5 : NS e5) (h6 : PE X e6 t6) (n6 : NS e6) (h7 : PE X e7 t7) (n7 : NS e7) (h8 : PE X e8 t8) (n8 : NS e8) (h9 : PE X e9 t9) (n9 : NS e9) (h10 : PE X e10 t10) (n10 : NS e10) (h11 : PE X e11 t11) (n11 : NS e11) (h12 : PE X e12 t12) (n12 : NS e12) : PA X [e1, e2, e3, e4, e5, e6, e7, e8, e9, e10, e11, e12] (tCons t1 (tCons t2 (tCons t3 (tCons t4 (tCons t5 (tCons t6 (tCons t7 (tCons t8 (tCons t9 (tCons t10 (tCons t11 (tCons t12 tNil)))))))))))) := (pa_cons h1 (pa_cons h2 (pa_cons h3 (pa_cons h4 (pa_cons h5 (pa_cons h6 (pa_cons h7 (pa_cons h8 (pa_cons h9 (pa_cons h10 (pa_cons h11 (pa_cons h12 pa_nil (n12 _ _)) (n11 _ _)) (n10 _ _)) (n9 _ _)) (n8 _ _)) (n7 _ _)) (n6 _ _)) (n5 _ _)) (n4 _ _)) (n3 _ _)) (n2 _ _)) (n1 _ _))
theorem pss2 {e1 e2 : Stmt} {t1 t2 : TS} (h1 : PS X e1 t1) (h2 : PS X e2 t2) : PSs X [e1, e2] (tSeq t1 t2) := (pss_cons h1 (pss_one h2))
theorem pss3 {e1 e2 e3 : Stmt} {t1 t2 t3 : TS} (h1 : PS X e1 t1) (h2 : PS X e2 t2) (h3 : PS X e3 t3) : PSs X [e1, e2, e3] (tSeq t1 (tSeq t2 t3)) := (pss_cons h1 (pss_cons h2 (pss_one h3)))
theorem pss4 {e1 e2 e3 e4 : Stmt} {t1 t2 t3 t4 : TS} (h1 : PS X e1 t1) (h2 : PS X e2 t2) (h3 : PS X e3 t3) (h4 : PS X e4 t4) : PSs X [e1, e2, e3, e4] (tSeq t1 (tSeq t2 (tSeq t3 t4))) := (pss_cons h1 (pss_cons h2 (pss_cons h3 (pss_one h4))))
theorem pss5 {e1 e2 e3 e4 e5 : Stmt} {t1 t2 t3 t4 t5 : TS} (h1 : PS X e1 t1) (h2 : PS X e2 t2) (h3 : PS X e3 t3) (h4 : PS X e4 t4) (h5 : PS X e5 t5) : PSs X [e1, e2, e3, e4, e5] (tSeq t1 (tSeq t2 (tSeq t3 (tSeq t4 t5)))) := (pss_cons h1 (pss_cons h2 (pss_cons h3 (pss_cons h4 (pss_one h5)))))
theorem pss6 {e1 e2 e3 e4 e5 e6 : Stmt} {t1 t2 t3 t4 t5 t6 : TS} (h1 : PS X e1 t1) (h2 : PS X e2 t2) (h3 : PS X e3 t3) (h4 : PS X e4 t4) (h5 : PS X e5 t5) (h6 : PS X e6 t6) : PSs X [e1, e2, e3, e4, e5, e6] (tSeq t1 (tSeq t2 (tSeq t3 (tSeq t4 (tSeq t5 t6))))) := (pss_cons h1 (pss_cons h2 (pss_cons h3 (pss_cons h4 (pss_cons h5 (pss_one h6))))))
theorem pss7 {e1 e2 e3 e4 e5 e6 e7 : Stmt} {t1 t2 t3 t4 t5 t6 t7 : TS} (h1 : PS X e1 t1) (h2 : PS X e2 t2) (h3 : PS X e3 t3) (h4 : PS X e4 t4) (h5 : PS X e5 t5) (h6 : PS X e6 t6) (h7 : PS X e7 t7) : PSs X [e1, e2, e3, e4, e5, e6, e7] (tSeq t1 (tSeq t2 (tSeq t3 (tSeq t4 (tSeq t5 (tSeq t6 t7)))))) := (pss_cons h1 (pss_cons h2 (pss_cons h3 (pss_cons h4 (pss_cons h5 (pss_cons h6 (pss_one h7)))))))
theorem pss8 {e1 e2 e3 e4 e5 e6 e7 e8 : Stmt} {t1 t2 t3 t4 t5 t6 t7 t8 : TS} (h1 : PS X e1 t1) (h2 : PS X e2 t2) (h3 : PS X e3 t3) (h4 : PS X e4 t4) (h5 : PS X e5 t5) (h6 : PS X e6 t6) (h7 : PS X e7 t7) (h8 : PS X e8 t8) : PSs X [e1, e2, e3, e4, e5, e6, e7, e8] (tSeq t1 (tSeq t2 (tSeq t3 (tSeq t4 (tSeq t5 (tSeq t6 (tSeq t7 t8))))))) := (pss_cons h1 (pss_cons h2 (pss_cons h3 (pss_cons h4 (pss_cons h5 (pss_cons h6 (pss_cons h7 (pss_one h8))))))))
theorem pss9 {e1 e2 e3 e4 e5 e6 e7 e8 e9 : Stmt} {t1 t2 t3 t4 t5 t6 t7 t8 t9 : TS} (h1 : PS X e1 t1) (h2 : PS X e2 t2) (h3 : PS X e3 t3) (h4 : PS X e4 t4) (h5 : PS X e5 t5) (h6 : PS X e6 t6) (h7 : PS X e7 t7) (h8 : PS X e8 t8) (h9 : PS X e9 t9) : PSs X [e1, e2, e3, e4, e5, e6, e7, e8, e9] (tSeq t1 (tSeq t2 (tSeq t3 (tSeq t4 (tSeq t5 (tSeq t6 (tSeq t7 (tSeq t8 t9)))))))) := (pss_cons h1 (pss_cons h2 (pss_cons h3 (pss_cons h4 (pss_cons h5 (pss_cons h6 (pss_cons h7 (pss_cons h8 (pss_one h9)))))))))
theorem pss10 {e1 e2 e3 e4 e5 e6 e7 e8 e9 e10 : Stmt} {t1 t2 t3 t4 t5 t6 t7 t8 t9 t10 : TS} (h1 : PS X e1 t1) (h2 : PS X e2 t2) (h3 : PS X e3 t3) (h4 : PS X e4 t4) (h5 : PS X e5 t5) (h6 : PS X e6 t6) (h7 : PS X e7 t7) (h8 : PS X e8 t8) (h9 : PS X e9 t9) (h10 : PS X e10 t10) : PSs X [e1, e2, e3, e4, e5, e6, e7, e8, e9, e10] (tSeq t1 (tSeq t2 (tSeq t3 (tSeq t4 (tSeq t5 (tSeq t6 (tSeq t7 (tSeq t8 (tSeq t9 t10))))))))) := (pss_cons h1 (pss_cons h2 (pss_cons h3 (pss_cons h4 (pss_cons h5 (pss_cons h6 (pss_cons h7 (pss_cons h8 (pss_cons h9 (pss_one h10))))))))))
theorem pss11 {e1 e2 e3 e4 e5 e6 e7 e8 e9 e10 e11 : Stmt} {t1 t2 t3 t4 t5 t6 t7 t8 t9 t10 t11 : TS} (h1 : PS X e1 t1) (h2 : PS X e2 t2) (h3 : PS X e3 t3) (h4 : PS X e4 t4) (h5 : PS X e5 t5) (h6 : PS X e6 t6) (h7 : PS X e7 t7) (h8 : PS X e8 t8) (h9 : PS X e9 t9) (h10 : PS X e10 t10) (h11 : PS X e11 t11) : PSs X [e1, e2, e3, e4, e5, e6, e7, e8, e9, e10, e11] (tSeq t1 (tSeq t2 (tSeq t3 (tSeq t4 (tSeq t5 (tSeq t6 (tSeq t7 (tSeq t8 (tSeq t9 (tSeq t10 t11)))))))))) := (pss_cons h1 (pss_cons h2 (pss_cons h3 (pss_cons h4 (pss_cons h5 (pss_cons h6 (pss_cons h7 (pss_cons h8 (pss_cons h9 (pss_cons h10 (pss_one h11)))))))))))
theorem pss12 {e1 e2 e3 e4 e5 e6 e7 e8 e9 e10 e11 e12 : Stmt} {t1 t2 t3 t4 t5 t6 t7 t8 t9 t10 t11 t12 : TS} (h1 : PS X e1 t1) (h2 : PS X e2 t2) (h3 : PS X e3 t3) (h4 : PS X e4 t4) (h5 : PS X e5 t5) (h6 : PS X e6 t6) (h7 : PS X e7 t7) (h8 : PS X e8 t8) (h9 : PS X e9 t9) (h10 : PS X e10 t10) (h11 : PS X e11 t11) (h12 : PS X e12 t12) : PSs X [e1, e2, e3, e4, e5, e6, e7, e8, e9, e10, e11, e12] (tSeq t1 (tSeq t2 (tSeq t3 (tSeq t4 (tSeq t5 (tSeq t6 (tSeq t7 (tSeq t8 (tSeq t9 (tSeq t10 (tSeq t11 t12))))))))))) := (pss_cons h1 (pss_cons h2 (pss_cons h3 (pss_cons h4 (pss_cons h5 (pss_cons h6 (pss_cons h7 (pss_cons h8 (pss_cons h9 (pss_cons h10 (pss_cons h11 (pss_one h12))))))))))))
theorem pss13 {e1 e2 e3 e4 e5 e6 e7 e8 e9 e10 e11 e12 e13 : Stmt} {t1 t2 t3 t4 t5 t6 t7 t8 t9 t10 t11 t12 t13 : TS} (h1 : PS X e1 t1) (h2 : PS X e2 t2) (h3 : PS X e3 t3) (h4 : PS X e4 t4) (h5 : PS X e5 t5) (h6 : PS X e6 t6) (h7 : PS X e7 t7) (h8 : PS X e8 t8) (h9 : PS X e9 t9) (h10 : PS X e10 t10) (h11 : PS X e11 t11) (h12 : PS X e12 t12) (h13 : PS X e13 t13) : PSs X [e1, e2, e3, e4, e5, e6, e7, e8, e9, e10, e11, e12, e13] (tSeq t1 (tSeq t2 (tSeq t3 (tSeq t4 (tSeq t5 (tSeq t6 (tSeq t7 (tSeq t8 (tSeq t9 (tSeq t10 (tSeq t11 (tSeq t12 t13)))))))))))) := (pss_cons h1 (pss_cons h2 (pss_cons h3 (pss_cons h4 (pss_cons h5 (pss_cons h6 (pss_cons h7 (pss_cons h8 (pss_cons h9 (pss_cons h10 (pss_cons h11 (pss_cons h12 (pss_one h13)))))))))))))
theorem pss14 {e1 e2 e3 e4 e5 e6 e7 e8 e9 e10 e11 e12 e13 e14 : Stmt} {t1 t2 t3 t4 t5 t6 t7 t8 t9 t10 t11 t12 t13 t14 : TS} (h1 : PS X e1 t1) (h2 : PS X e2 t2) (h3 : PS X e3 t3) (h4 : PS X e4 t4) (h5 : PS X e5 t5) (h6 : PS X e6 t6) (h7 : PS X e7 t7) (h8 : PS X e8 t8) (h9 : PS X e9 t9) (h10 : PS X e10 t10) (h11 : PS X e11 t11) (h12 : PS X e12 t12) (h13 : PS X e13 t13) (h14 : PS X e14 t14) : PSs X [e1, e2, e3, e4, e5, e6, e7, e8, e9, e10, e11, e12, e13, e14] (tSeq t1 (tSeq t2 (tSeq t3 (tSeq t4 (tSeq t5 (tSeq t6 (tSeq t7 (tSeq t8 (tSeq t9 (tSeq t10 (tSeq t11 (tSeq t12 (tSeq t13 t14))))))))))))) := (pss_cons h1 (pss_cons h2 (pss_cons h3 (pss_cons h4 (pss_cons h5 (pss_cons h6 (pss_cons h7 (pss_cons h8 (pss_cons h9 (pss_cons h10 (pss_cons h11 (pss_cons h12 (pss_cons h13 (pss_one h14))))))))))))))
theorem pss15 {e1 e2 e3 e4 e5 e6 e7 e8 e9 e10 e11 e12 e13 e14 e15 : Stmt} {t1 t2 t3 t4 t5 t6 t7 t8 t9 t10 t11 t12 t13 t14 t15 : TS} (h1 : PS X e1 t1) (h2 : PS X e2 t2) (h3 : PS X e3 t3) (h4 : PS X e4 t4) (h5 : PS X e5 t5) (h6 : PS X e6 t6) (h7 : PS X e7 t7) (h8 : PS X e8 t8) (h9 : PS X e9 t9) (h10 : PS X e10 t10) (h11 : PS X e11 t11) (h12 : PS X e12 t12) (h13 : PS X e13 t13) (h14 : PS X e14 t14) (h15 : PS X e15 t15) : PSs X [e1, e2, e3, e4, e5, e6, e7, e8, e9, e10, e11, e12, e13, e14, e15] (tSeq t1 (tSeq t2 (tSeq t3 (tSeq t4 (tSeq t5 (tSeq t6 (tSeq t7 (tSeq t8 (tSeq t9 (tSeq t10 (tSeq t11 (tSeq t12 (tSeq t13 (tSeq t14 t15)))))))))))))) := (pss_cons h1 (pss_cons h2 (pss_cons h3 (pss_cons h4 (pss_cons h5 (pss_cons h6 (pss_cons h7 (pss_cons h8 (pss_cons h9 (pss_cons h10 (pss_cons h11 (pss_cons h12 (pss_cons h13 (pss_cons h14 (pss_one h15)))))))))))))))
theorem pss16 {e1 e2 e3 e4 e5 e6 e7 e8 e9 e10 e11 e12 e13 e14 e15 e16 : Stmt} {t1 t2 t3 t4 t5 t6 t7 t8 t9 t10 t11 t12 t13 t14 t15 t16 : TS} (h1 : PS X e1 t1) (h2 : PS X e2 t2) (h3 : PS X e3 t3) (h4 : PS X e4 t4) (h5 : PS X e5 t5) (h6 : PS X e6 t6) (h7 : PS X e7 t7) (h8 : PS X e8 t8) (h9 : PS X e9 t9) (h10 : PS X e10 t10) (h11 : PS X e11 t11) (h12 : PS X e12 t12) (h13 : PS X e13 t13) (h14 : PS X e14 t14) (h15 : PS X e15 t15) (h16 : PS X e16 t16) : PSs X [e1, e2, e3, e4, e5, e6, e7, e8, e9, e10, e11, e12, e13, e14, e15, e16] (tSeq t1 (tSeq t2 (tSeq t3 (tSeq t4 (tSeq t5 (tSeq t6 (tSeq t7 (tSeq t8 (tSeq t9 (tSeq t10 (tSeq t11 (tSeq t12 (tSeq t13 (tSeq t14 (tSeq t15 t16))))))))))))))) := (pss_cons h1 (pss_cons h2 (pss_cons h3 (pss_cons h4 (pss_cons h5 (pss_cons h6 (pss_cons h7 (pss_cons h8 (pss_cons h9 (pss_cons h10 (pss_cons h11 (pss_cons h12 (pss_cons h13 (pss_cons h14 (pss_cons h15 (pss_one h16))))))))))))))))
theorem pss17 {e1 e2 e3 e4 e5 e6 e7 e8 e9 e10 e11 e12 e13 e14 e15 e16 e17 : Stmt} {t1 t2 t3 t4 t5 t6 t7 t8 t9 t10 t11 t12 t13 t14 t15 t16 t17 : TS} (h1 : PS X e1 t1) (h2 : PS X e2 t2) (h3 : PS X e3 t3) (h4 : PS X e4 t4) (h5 : PS X e5 t5) (h6 : PS X e6 t6) (h7 : PS X e7 t7) (h8 : PS X e8 t8) (h9 : PS X e9 t9) (h10 : PS X e10 t10) (h11 : PS X e11 t11) (h12 : PS X e12 t12) (h13 : PS X e13 t13) (h14 : PS X e14 t14) (h15 : PS X e15 t15) (h16 : PS X e16 t16) (h17 : PS X e17 t17) : PSs X [e1, e2, e3, e4, e5, e6, e7, e8, e9, e10, e11, e12, e13, e14, e15, e16, e17] (tSeq t1 (tSeq t2 (tSeq t3 (tSeq t4 (tSeq t5 (tSeq t6 (tSeq t7 (tSeq t8 (tSeq t9 (tSeq t10 (tSeq t11 (tSeq t12 (tSeq t13 (tSeq t14 (tSeq t15 (tSeq t16 t17)))))))))))))))) := (pss_cons h1 (pss_cons h2 (pss_cons h3 (pss_cons h4 (pss_cons h5 (pss_cons h6 (pss_cons h7 (pss_cons h8 (pss_cons h9 (pss_cons h10 (pss_cons h11 (pss_cons h12 (pss_cons h13 (pss_cons h14 (pss_cons h15 (pss_cons h16 (pss_one h17)))))))))))))))))
theorem pss18 {e1 e2 e3 e4 e5 e6 e7 e8 e9 e10 e11 e12 e13 e14 e15 e16 e17 e18 : Stmt} {t1 t2 t3 t4 t5 t6 t7 t8 t9 t10 t11 t12 t13 t14 t15 t16 t17 t18 : TS} (h1 : PS X e1 t1) (h2 : PS X e2 t2) (h3 : PS X e3 t3) (h4 : PS X e4 t4) (h5 : PS X e5 t5) (h6 : PS X e6 t6) (h7 : PS X e7 t7) (h8 : PS X e8 t8) (h9 : PS X e9 t9) (h10 : PS X e10 t10) (h11 : PS X e11 t11) (h12 : PS X e12 t12) (h13 : PS X e13 t13) (h14 : PS X e14 t14) (h15 : PS X e15 t15) (h16 : PS X e16 t16) (h17 : PS X e17 t17) (h18 : PS X e18 t18) : PSs X [e1, e2, e3, e4, e5, e6, e7, e8, e9, e10, e11, e12, e13, e14, e15, e16, e17, e18] (tSeq t1 (tSeq t2 (tSeq t3 (tSeq t4 (tSeq t5 (tSeq t6 (tSeq t7 (tSeq t8 (tSeq t9 (tSeq t10 (tSeq t11 (tSeq t12 (tSeq t13 (tSeq t14 (tSeq t15 (tSeq t16 (tSeq t17 t18))))))))))))))))) := (pss_cons h1 (pss_cons h2 (pss_cons h3 (pss_cons h4 (pss_cons h5 (pss_cons h6 (pss_cons h7 (pss_cons h8 (pss_cons h9 (pss_cons h10 (pss_cons h11 (pss_cons h12 (pss_cons h13 (pss_cons h14 (pss_cons h15 (pss_cons h16 (pss_cons h17 (pss_one h18))))))))))))))))))
theorem pss19 {e1 e2 e3 e4 e5 e6 e7 e8 e9 e10 e11 e12 e13 e14 e15 e16 e17 e18 e19 : Stmt} {t1 t2 t3 t4 t5 t6 t7 t8 t9 t10 t11 t12 t13 t14 t15 t16 t17 t18 t19 : TS} (h1 : PS X e1 t1) (h2 : PS X e2 t2) (h3 : PS X e3 t3) (h4 : PS X e4 t4) (h5 : PS X e5 t5) (h6 : PS X e6 t6) (h7 : PS X e7 t7) (h8 : PS X e8 t8) (h9 : PS X e9 t9) (h10 : PS X e10 t10) (h11 : PS X e11 t11) (h12 : PS X e12 t12) (h13 : PS X e13 t13) (h14 : PS X e14 t14) (h15 : PS X e15 t15) (h16 : PS X e16 t16) (h17 : PS X e17 t17) (h18 : PS X e18 t18) (h19 : PS X e19 t19) : PSs X [e1, e2, e3, e4, e5, e6, e7, e8, e9, e10, e11, e12, e13, e14, e15, e16, e17, e18, e19] (tSeq t1 (tSeq t2 (tSeq t3 (tSeq t4 (tSeq t5 (tSeq t6 (tSeq t7 (tSeq t8 (tSeq t9 (tSeq t10 (tSeq t11 (tSeq t12 (tSeq t13 (tSeq t14 (tSeq t15 (tSeq t16 (tSeq t17 (tSeq t18 t19)))))))))))))))))) := (pss_cons h1 (pss_cons h2 (pss_cons h3 (pss_cons h4 (pss_cons h5 (pss_cons h6 (pss_cons h7 (pss_cons h8 (pss_cons h9 (pss_cons h10 (pss_cons h11 (pss_cons h12 (pss_cons h13 (pss_cons h14 (pss_cons h15 (pss_cons h16 (pss_cons h17 (pss_cons h18 (pss_one h19)))))))))))))))))))
theorem pss20 {e1 e2 e3 e4 e5 e6 e7 e8 e9 e10 e11 e12 e13 e14 e15 e16 e17 e18 e19 e20 : Stmt} {t1 t2 t3 t4 t5 t6 t7 t8 t9 t10 t11 t12 t13 t14 t15 t16 t17 t18 t19 t20 : TS} (h1 : PS X e1 t1) (h2 : PS X e2 t2) (h3 : PS X e3 t3) (h4 : PS X e4 t4) (h5 : PS X e5 t5) (h6 : PS X e6 t6) (h7 : PS X e7 t7) (h8 : PS X e8 t8) (h9 : PS X e9 t9) (h10 : PS X e10 t10) (h11 : PS X e11 t11) (h12 : PS X e12 t12) (h13 : PS X e13 t13) (h14 : PS X e14 t14) (h15 : PS X e15 t15) (h16 : PS X e16 t16) (h17 : PS X e17 t17) (h18 : PS X e18 t18) (h19 : PS X e19 t19) (h20 : PS X e20 t20) : PSs X [e1, e2, e3, e4, e5, e6, e7, e8, e9, e10, e11, e12, e13, e14, e15, e16, e17, e18, e19, e20] (tSeq t1 (tSeq t2 (tSeq t3 (tSeq t4 (tSeq t5 (tSeq t6 (tSeq t7 (tSeq t8 (tSeq t9 (tSeq t10 (tSeq t11 (tSeq t12 (tSeq t13 (tSeq t14 (tSeq t15 (tSeq t16 (tSeq t17 (tSeq t18 (tSeq t19 t20))))))))))))))))))) := (pss_cons h1 (pss_cons h2 (pss_cons h3 (pss_cons h4 (pss_cons h5 (pss_cons h6 (pss_cons h7 (pss_cons h8 (pss_cons h9 (pss_cons h10 (pss_cons h11 (pss_cons h12 (pss_cons h13 (pss_cons h14 (pss_cons h15 (pss_cons h16 (pss_cons h17 (pss_cons h18 (pss_cons h19 (pss_one h20))))))))))))))))))))
theorem pss21 {e1 e2 e3 e4 e5 e6 e7 e8 e9 e10 e11 e12 e13 e14 e15 e16 e17 e18 e19 e20 e21 : Stmt} {t1 t2 t3 t4 t5 t6 t7 t8 t9 t10 t11 t12 t13 t14 t15 t16 t17 t18 t19 t20 t21 : TS} (h1 : PS X e1 t1) (h2 : PS X e2 t2) (h3 : PS X e3 t3) (h4 : PS X e4 t4) (h5 : PS X e5 t5) (h6 : PS X e6 t6) (h7 : PS X e7 t7) (h8 : PS X e8 t8) (h9 : PS X e9 t9) (h10 : PS X e10 t10) (h11 : PS X e11 t11) (h12 : PS X e12 t12) (h13 : PS X e13 t13) (h14 : PS X e14 t14) (h15 : PS X e15 t15) (h16 : PS X e16 t16) (h17 : PS X e17 t17) (h18 : PS X e18 t18) (h19 : PS X e19 t19) (h20 : PS X e20 t20) (h21 : PS X e21 t21) : PSs X [e1, e2, e3, e4, e5, e6, e7, e8, e9, e10, e11, e12, e13, e14, e15, e16, e17, e18, e19, e20, e21] (tSeq t1 (tSeq t2 (tSeq t3 (tSeq t4 (tSeq t5 (tSeq t6 (tSeq t7 (tSeq t8 (tSeq t9 (tSeq t10 (tSeq t11 (tSeq t12 (tSeq t13 (tSeq t14 (tSeq t15 (tSeq t16 (tSeq t17 (tSeq t18 (tSeq t19 (tSeq t20 t21)))))))))))))))))))) := (pss_cons h1 (pss_cons h2 (pss_cons h3 (pss_cons h4 (pss_cons h5 (pss_cons h6 (pss_cons h7 (pss_cons h8 (pss_cons h9 (pss_cons h10 (pss_cons h11 (pss_cons h12 (pss_cons h13 (pss_cons h14 (pss_cons h15 (pss_cons h16 (pss_cons h17 (pss_cons h18 (pss_cons h19 (pss_cons h20 (pss_one h21)))))))))))))))))))))
theorem pss22 {e1 e2 e3 e4 e5 e6 e7 e8 e9 e10 e11 e12 e13 e14 e15 e16 e17 e18 e19 e20 e21 e22 : Stmt} {t1 t2 t3 t4 t5 t6 t7 t8 t9 t10 t11 t12 t13 t14 t15 t16 t17 t18 t19 t20 t21 t22 : TS} (h1 : PS X e1 t1) (h2 : PS X e2 t2) (h3 : PS X e3 t3) (h4 : PS X e4 t4) (h5 : PS X e5 t5) (h6 : PS X e6 t6) (h7 : PS X e7 t7) (h8 : PS X e8 t8) (h9 : PS X e9 t9) (h10 : PS X e10 t10) (h11 : PS X e11 t11) (h12 : PS X e12 t12) (h13 : PS X e13 t13) (h14 : PS X e14 t14) (h15 : PS X e15 t15) (h16 : PS X e16 t16) (h17 : PS X e17 t17) (h18 : PS X e18 t18) (h19 : PS X e19 t19) (h20 : PS X e20 t20) (h21 : PS X e21 t21) (h22 : PS X e22 t22) : PSs X [e1, e2, e3, e4, e5, e6, e7, e8, e9, e10, e11, e12, e13, e14, e15, e16, e17, e18, e19, e20, e21, e22] (tSeq t1 (tSeq t2 (tSeq t3 (tSeq t4 (tSeq t5 (tSeq t6 (tSeq t7 (tSeq t8 (tSeq t9 (tSeq t10 (tSeq t11 (tSeq t12 (tSeq t13 (tSeq t14 (tSeq t15 (tSeq t16 (tSeq t17 (tSeq t18 (tSeq t19 (tSeq t20 (tSeq t21 t22))))))))))))))))))))) := (pss_cons h1 (pss_cons h2 (pss_cons h3 (pss_cons h4 (pss_cons h5 (pss_cons h6 (pss_cons h7 (pss_cons h8 (pss_cons h9 (pss_cons h10 (pss_cons h11 (pss_cons h12 (pss_cons h13 (pss_cons h14 (pss_cons h15 (pss_cons h16 (pss_cons h17 (pss_cons h18 (pss_cons h19 (pss_cons h20 (pss_cons h21 (pss_one h22))))))))))))))))))))))
theorem pss23 {e1 e2 e3 e4 e5 e6 e7 e8 e9 e10 e11 e12 e13 e14 e15 e16 e17 e18 e19 e20 e21 e22 e23 : Stmt} {t1 t2 t3 t4 t5 t6 t7 t8 t9 t10 t11 t12 t13 t14 t15 t16 t17 t18 t19 t20 t21 t22 t23 : TS} (h1 : PS X e1 t1) (h2 : PS X e2 t2) (h3 : PS X e3 t3) (h4 : PS X e4 t4) (h5 : PS X e5 t5) (h6 : PS X e6 t6) (h7 : PS X e7 t7) (h8 : PS X e8 t8) (h9 : PS X e9 t9) (h10 : PS X e10 t10) (h11 : PS X e11 t11) (h12 : PS X e12 t12) (h13 : PS X e13 t13) (h14 : PS X e14 t14) (h15 : PS X e15 t15) (h16 : PS X e16 t16) (h17 : PS X e17 t17) (h18 : PS X e18 t18) (h19 : PS X e19 t19) (h20 : PS X e20 t20) (h21 : PS X e21 t21) (h22 : PS X e22 t22) (h23 : PS X e23 t23) : PSs X [e1, e2, e3, e4, e5, e6, e7, e8, e9, e10, e11, e12, e13, e14, e15, e16, e17, e18, e19, e20, e21, e22, e23] (tSeq t1 (tSeq t2 (tSeq t3 (tSeq t4 (tSeq t5 (tSeq t6 (tSeq t7 (tSeq t8 (tSeq t9 (tSeq t10 (tSeq t11 (tSeq t12 (tSeq t13 (tSeq t14 (tSeq t15 (tSeq t16 (tSeq t17 (tSeq t18 (tSeq t19 (tSeq t20 (tSeq t21 (tSeq t22 t23)))))))))))))))))))))) := (pss_cons h1 (pss_cons h2 (pss_cons h3 (pss_cons h4 (pss_cons h5 (pss_cons h6 (pss_cons h7 (pss_cons h8 (pss_cons h9 (pss_cons h10 (pss_cons h11 (pss_cons h12 (pss_cons h13 (pss_cons h14 (pss_cons h15 (pss_cons h16 (pss_cons h17 (pss_cons h18 (pss_cons h19 (pss_cons h20 (pss_cons h21 (pss_cons h22 (pss_one h23)))))))))))))))))))))))
theorem pss24 {e1 e2 e3 e4 e5 e6 e7 e8 e9 e10 e11 e12 e13 e14 e15 e16 e17 e18 e19 e20 e21 e22 e23 e24 : Stmt} {t1 t2 t3 t4 t5 t6 t7 t8 t9 t10 t11 t12 t13 t14 t15 t16 t17 t18 t19 t20 t21 t22 t23 t24 : TS} (h1 : PS X e1 t1) (h2 : PS X e2 t2) (h3 : PS X e3 t3) (h4 : PS X e4 t4) (h5 : PS X e5 t5) (h6 : PS X e6 t6) (h7 : PS X e7 t7) (h8 : PS X e8 t8) (h9 : PS X e9 t9) (h10 : PS X e10 t10) (h11 : PS X e11 t11) (h12 : PS X e12 t12) (h13 : PS X e13 t13) (h14 : PS X e14 t14) (h15 : PS X e15 t15) (h16 : PS X e16 t16) (h17 : PS X e17 t17) (h18 : PS X e18 t18) (h19 : PS X e19 t19) (h20 : PS X e20 t20) (h21 : PS X e21 t21) (h22 : PS X e22 t22) (h23 : PS X e23 t23) (h24 : PS X e24 t24) : PSs X [e1, e2, e3, e4, e5, e6, e7, e8, e9, e10, e11, e12, e13, e14, e15, e16, e17, e18, e19, e20, e21, e22, e23, e24] (tSeq t1 (tSeq t2 (tSeq t3 (tSeq t4 (tSeq t5 (tSeq t6 (tSeq t7 (tSeq t8 (tSeq t9 (tSeq t10 (tSeq t11 (tSeq t12 (tSeq t13 (tSeq t14 (tSeq t15 (tSeq t16 (tSeq t17 (tSeq t18 (tSeq t19 (tSeq t20 (tSeq t21 (tSeq t22 (tSeq t23 t24))))))))))))))))))))))) := (pss_cons h1 (pss_cons h2 (pss_cons h3 (pss_cons h4 (pss_cons h5 (pss_cons h6 (pss_cons h7 (pss_cons h8 (pss_cons h9 (pss_cons h10 (pss_cons h11 (pss_cons h12 (pss_cons h13 (pss_cons h14 (pss_cons h15 (pss_cons h16 (pss_cons h17 (pss_cons h18 (pss_cons h19 (pss_cons h20 (pss_cons h21 (pss_cons h22 (pss_cons h23 (pss_one h24))))))))))))))))))))))))
theorem pss25 {e1 e2 e3 e4 e5 e6 e7 e8 e9 e10 e11 e12 e13 e14 e15 e16 e17 e18 e19 e20 e21 e22 e23 e24 e25 : Stmt} {t1 t2 t3 t4 t5 t6 t7 t8 t9 t10 t11 t12 t13 t14 t15 t16 t17 t18 t19 t20 t21 t22 t23 t24 t25 : TS} (h1 : PS X e1 t1) (h2 : PS X e2 t2) (h3 : PS X e3 t3) (h4 : PS X e4 t4) (h5 : PS X e5 t5) (h6 : PS X e6 t6) (h7 : PS X e7 t7) (h8 : PS X e8 t8) (h9 : PS X e9 t9) (h10 : PS X e10 t10) (h11 : PS X e11 t11) (h12 : PS X e12 t12) (h13 : PS X e13 t13) (h14 : PS X e14 t14) (h15 : PS X e15 t15) (h16 : PS X e16 t16) (h17 : PS X e17 t17) (h18 : PS X e18 t18) (h19 : PS X e19 t19) (h20 : PS X e20 t20) (h21 : PS X e21 t21) (h22 : PS X e22 t22) (h23 : PS X e23 t23) (h24 : PS X e24 t24) (h25 : PS X e25 t25) : PSs X [e1, e2, e3, e4, e5, e6, e7, e8, e9, e10, e11, e12, e13, e14, e15, e16, e17, e18, e19, e20, e21, e22, e23, e24, e25] (tSeq t1 (tSeq t2 (tSeq t3 (tSeq t4 (tSeq t5 (tSeq t6 (tSeq t7 (tSeq t8 (tSeq t9 (tSeq t10 (tSeq t11 (tSeq t12 (tSeq t13 (tSeq t14 (tSeq t15 (tSeq t16 (tSeq t17 (tSeq t18 (tSeq t19 (tSeq t20 (tSeq t21 (tSeq t22 (tSeq t23 (tSeq t24 t25)))))))))))))))))))))))) := (pss_cons h1 (pss_cons h2 (pss_cons h3 (pss_cons h4 (pss_cons h5 (pss_cons h6 (pss_cons h7 (pss_cons h8 (pss_cons h9 (pss_cons h10 (pss_cons h11 (pss_cons h12 (pss_cons h13 (pss_cons h14 (pss_cons h15 (pss_cons h16 (pss_cons h17 (pss_cons h18 (pss_cons h19 (pss_cons h20 (pss_cons h21 (pss_cons h22 (pss_cons h23 (pss_cons h24 (pss_one h25)))))))))))))))))))))))))
theorem pss26 {e1 e2 e3 e4 e5 e6 e7 e8 e9 e10 e11 e12 e13 e14 e15 e16 e17 e18 e19 e20 e21 e22 e23 e24 e25 e26 : Stmt} {t1 t2 t3 t4 t5 t6 t7 t8 t9 t10 t11 t12 t13 t14 t15 t16 t17 t18 t19 t20 t21 t22 t23 t24 t25 t26 : TS} (h1 : PS X e1 t1) (h2 : PS X e2 t2) (h3 : PS X e3 t3) (h4 : PS X e4 t4) (h5 : PS X e5 t5) (h6 : PS X e6 t6) (h7 : PS X e7 t7) (h8 : PS X e8 t8) (h9 : PS X e9 t9) (h10 : PS X e10 t10) (h11 : PS X e11 t11) (h12 : PS X e12 t12) (h13 : PS X e13 t13) (h14 : PS X e14 t14) (h15 : PS X e15 t15) (h16 : PS X e16 t16) (h17 : PS X e17 t17) (h18 : PS X e18 t18) (h19 : PS X e19 t19) (h20 : PS X e20 t20) (h21 : PS X e21 t21) (h22 : PS X e22 t22) (h23 : PS X e23 t23) (h24 : PS X e24 t24) (h25 : PS X e25 t25) (h26 : PS X e26 t26) : PSs X [e1, e2, e3, e4, e5, e6, e7, e8, e9, e10, e11, e12, e13, e14, e15, e16, e17, e18, e19, e20, e21, e22, e23, e24, e25, e26] (tSeq t1 (tSeq t2 (tSeq t3 (tSeq t4 (tSeq t5 (tSeq t6 (tSeq t7 (tSeq t8 (tSeq t9 (tSeq t10 (tSeq t11 (tSeq t12 (tSeq t13 (tSeq t14 (tSeq t15 (tSeq t16 (tSeq t17 (tSeq t18 (tSeq t19 (tSeq t20 (tSeq t21 (tSeq t22 (tSeq t23 (tSeq t24 (tSeq t25 t26))))))))))))))))))))))))) := (pss_cons h1 (pss_cons h2 (pss_cons h3 (pss_cons h4 (pss_cons h5 (pss_cons h6 (pss_cons h7 (pss_cons h8 (pss_cons h9 (pss_cons h10 (pss_cons h11 (pss_cons h12 (pss_cons h13 (pss_cons h14 (pss_cons h15 (pss_cons h16 (pss_cons h17 (pss_cons h18 (pss_cons h19 (pss_cons h20 (pss_cons h21 (pss_cons h22 (pss_cons h23 (pss_cons h24 (pss_cons h25 (pss_one h26))))))))))))))))))))))))))
theorem pss27 {e1 e2 e3 e4 e5 e6 e7 e8 e9 e10 e11 e12 e13 e14 e15 e16 e17 e18 e19 e20 e21 e22 e23 e24 e25 e26 e27 : Stmt} {t1 t2 t3 t4 t5 t6 t7 t8 t9 t10 t11 t12 t13 t14 t15 t16 t17 t18 t19 t20 t21 t22 t23 t24 t25 t26 t27 : TS} (h1 : PS X e1 t1) (h2 : PS X e2 t2) (h3 : PS X e3 t3) (h4 : PS X e4 t4) (h5 : PS X e5 t5) (h6 : PS X e6 t6) (h7 : PS X e7 t7) (h8 : PS X e8 t8) (h9 : PS X e9 t9) (h10 : PS X e10 t10) (h11 : PS X e11 t11) (h12 : PS X e12 t12) (h13 : PS X e13 t13) (h14 : PS X e14 t14) (h15 : PS X e15 t15) (h16 : PS X e16 t16) (h17 : PS X e17 t17) (h18 : PS X e18 t18) (h19 : PS X e19 t19) (h20 : PS X e20 t20) (h21 : PS X e21 t21) (h22 : PS X e22 t22) (h23 : PS X e23 t23) (h24 : PS X e24 t24) (h25 : PS X e25 t25) (h26 : PS X e26 t26) (h27 : PS X e27 t27) : PSs X [e1, e2, e3, e4, e5, e6, e7, e8, e9, e10, e11, e12, e13, e14, e15, e16, e17, e18, e19, e20, e21, e22, e23, e24, e25, e26, e27] (tSeq t1 (tSeq t2 (tSeq t3 (tSeq t4 (tSeq t5 (tSeq t6 (tSeq t7 (tSeq t8 (tSeq t9 (tSeq t10 (tSeq t11 (tSeq t12 (tSeq t13 (tSeq t14 (tSeq t15 (tSeq t16 (tSeq t17 (tSeq t18 (tSeq t19 (tSeq t20 (tSeq t21 (tSeq t22 (tSeq t23 (tSeq t24 (tSeq t25 (tSeq t26 t27)))))))))))))))))))))))))) := (pss_cons h1 (pss_cons h2 (pss_cons h3 (pss_cons h4 (pss_cons h5 (pss_cons h6 (pss_cons h7 (pss_cons h8 (pss_cons h9 (pss_cons h10 (pss_cons h11 (pss_cons h12 (pss_cons h13 (pss_cons h14 (pss_cons h15 (pss_cons h16 (pss_cons h17 (pss_cons h18 (pss_cons h19 (pss_cons h20 (pss_cons h21 (pss_cons h22 (pss_cons h23 (pss_cons h24 (pss_cons h25 (pss_cons h26 (pss_one h27)))))))))))))))))))))))))))
theorem pss28 {e1 e2 e3 e4 e5 e6 e7 e8 e9 e10 e11 e12 e13 e14 e15 e16 e17 e18 e19 e20 e21 e22 e23 e24 e25 e26 e27 e28 : Stmt} {t1 t2 t3 t4 t5 t6 t7 t8 t9 t10 t11 t12 t13 t14 t15 t16 t17 t18 t19 t20 t21 t22 t23 t24 t25 t26 t27 t28 : TS} (h1 : PS X e1 t1) (h2 : PS X e2 t2) (h3 : PS X e3 t3) (h4 : PS X e4 t4) (h5 : PS X e5 t5) (h6 : PS X e6 t6) (h7 : PS X e7 t7) (h8 : PS X e8 t8) (h9 : PS X e9 t9) (h10 : PS X e10 t10) (h11 : PS X e11 t11) (h12 : PS X e12 t12) (h13 : PS X e13 t13) (h14 : PS X e14 t14) (h15 : PS X e15 t15) (h16 : PS X e16 t16) (h17 : PS X e17 t17) (h18 : PS X e18 t18) (h19 : PS X e19 t19) (h20 : PS X e20 t20) (h21 : PS X e21 t21) (h22 : PS X e22 t22) (h23 : PS X e23 t23) (h24 : PS X e24 t24) (h25 : PS X e25 t25) (h26 : PS X e26 t26) (h27 : PS X e27 t27) (h28 : PS X e28 t28) : PSs X [e1, e2, e3, e4, e5, e6, e7, e8, e9, e10, e11, e12, e13, e14, e15, e16, e17, e18, e19, e20, e21, e22, e23, e24, e25, e26, e27, e28] (tSeq t1 (tSeq t2 (tSeq t3 (tSeq t4 (tSeq t5 (tSeq t6 (tSeq t7 (tSeq t8 (tSeq t9 (tSeq t10 (tSeq t11 (tSeq t12 (tSeq t13 (tSeq t14 (tSeq t15 (tSeq t16 (tSeq t17 (tSeq t18 (tSeq t19 (tSeq t20 (tSeq t21 (tSeq t22 (tSeq t23 (tSeq t24 (tSeq t25 (tSeq t26 (tSeq t27 t28))))))))))))))))))))))))))) := (pss_cons h1 (pss_cons h2 (pss_cons h3 (pss_cons h4 (pss_cons h5 (pss_cons h6 (pss_cons h7 (pss_cons h8 (pss_cons h9 (pss_cons h10 (pss_cons h11 (pss_cons h12 (pss_cons h13 (pss_cons h14 (pss_cons h15 (pss_cons h16 (pss_cons h17 (pss_cons h18 (pss_cons h19 (pss_cons h20 (pss_cons h21 (pss_cons h22 (pss_cons h23 (pss_cons h24 (pss_cons h25 (pss_cons h26 (pss_cons h27 (pss_one h28))))))))))))))))))))))))))))
theorem pss29 {e1 e2 e3 e4 e5 e6 e7 e8 e9 e10 e11 e12 e13 e14 e15 e16 e17 e18 e19 e20 e21 e22 e23 e24 e25 e26 e27 e28 e29 : Stmt} {t1 t2 t3 t4 t5 t6 t7 t8 t9 t10 t11 t12 t13 t14 t15 t16 t17 t18 t19 t20 t21 t22 t23 t24 t25 t26 t27 t28 t29 : TS} (h1 : PS X e1 t1) (h2 : PS X e2 t2) (h3 : PS X e3 t3) (h4 : PS X e4 t4) (h5 : PS X e5 t5) (h6 : PS X e6 t6) (h7 : PS X e7 t7) (h8 : PS X e8 t8) (h9 : PS X e9 t9) (h10 : PS X e10 t10) (h11 : PS X e11 t11) (h12 : PS X e12 t12) (h13 : PS X e13 t13) (h14 : PS X e14 t14) (h15 : PS X e15 t15) (h16 : PS X e16 t16) (h17 : PS X e17 t17) (h18 : PS X e18 t18) (h19 : PS X e19 t19) (h20 : PS X e20 t20) (h21 : PS X e21 t21) (h22 : PS X e22 t22) (h23 : PS X e23 t23) (h24 : PS X e24 t24) (h25 : PS X e25 t25) (h26 : PS X e26 t26) (h27 : PS X e27 t27) (h28 : PS X e28 t28) (h29 : PS X e29 t29) : PSs X [e1, e2, e3, e4, e5, e6, e7, e8, e9, e10, e11, e12, e13, e14, e15, e16, e17, e18, e19, e20, e21, e22, e23, e24, e25, e26, e27, e28, e29] (tSeq t1 (tSeq t2 (tSeq t3 (tSeq t4 (tSeq t5 (tSeq t6 (tSeq t7 (tSeq t8 (tSeq t9 (tSeq t10 (tSeq t11 (tSeq t12 (tSeq t13 (tSeq t14 (tSeq t15 (tSeq t16 (tSeq t17 (tSeq t18 (tSeq t19 (tSeq t20 (tSeq t21 (tSeq t22 (tSeq t23 (tSeq t24 (tSeq t25 (tSeq t26 (tSeq t27 (tSeq t28 t29)))))))))))))))))))))))))))) := (pss_cons h1 (pss_cons h2 (pss_cons h3 (pss_cons h4 (pss_cons h5 (pss_cons h6 (pss_cons h7 (pss_cons h8 (pss_cons h9 (pss_cons h10 (pss_cons h11 (pss_cons h12 (pss_cons h13 (pss_cons h14 (pss_cons h15 (pss_cons h16 (pss_cons h17 (pss_cons h18 (pss_cons h19 (pss_cons h20 (pss_cons h21 (pss_cons h22 (pss_cons h23 (pss_cons h24 (pss_cons h25 (pss_cons h26 (pss_cons h27 (pss_cons h28 (pss_one h29)))))))))))))))))))))))))))))
theorem pss30 {e1 e2 e3 e4 e5 e6 e7 e8 e9 e10 e11 e12 e13 e14 e15 e16 e17 e18 e19 e20 e21 e22 e23 e24 e25 e26 e27 e28 e29 e30 : Stmt} {t1 t2 t3 t4 t5 t6 t7 t8 t9 t10 t11 t12 t13 t14 t15 t16 t17 t18 t19 t20 t21 t22 t23 t24 t25 t26 t27 t28 t29 t30 : TS} (h1 : PS X e1 t1) (h2 : PS X e2 t2) (h3 : PS X e3 t3) (h4 : PS X e4 t4) (h5 : PS X e5 t5) (h6 : PS X e6 t6) (h7 : PS X e7 t7) (h8 : PS X e8 t8) (h9 : PS X e9 t9) (h10 : PS X e10 t10) (h11 : PS X e11 t11) (h12 : PS X e12 t12) (h13 : PS X e13 t13) (h14 : PS X e14 t14) (h15 : PS X e15 t15) (h16 : PS X e16 t16) (h17 : PS X e17 t17) (h18 : PS X e18 t18) (h19 : PS X e19 t19) (h20 : PS X e20 t20) (h21 : PS X e21 t21) (h22 : PS X e22 t22) (h23 : PS X e23 t23) (h24 : PS X e24 t24) (h25 : PS X e25 t25) (h26 : PS X e26 t26) (h27 : PS X e27 t27) (h28 : PS X e28 t28) (h29 : PS X e29 t29) (h30 : PS X e30 t30) : PSs X [e1, e2, e3, e4, e5, e6, e7, e8, e9, e10, e11, e12, e13, e14, e15, e16, e17, e18, e19, e20, e21, e22, e23, e24, e25, e26, e27, e28, e29, e30] (tSeq t1 (tSeq t2 (tSeq t3 (tSeq t4 (tSeq t5 (tSeq t6 (tSeq t7 (tSeq t8 (tSeq t9 (tSeq t10 (tSeq t11 (tSeq t12 (tSeq t13 (tSeq t14 (tSeq t15 (tSeq t16 (tSeq t17 (tSeq t18 (tSeq t19 (tSeq t20 (tSeq t21 (tSeq t22 (tSeq t23 (tSeq t24 (tSeq t25 (tSeq t26 (tSeq t27 (tSeq t28 (tSeq t29 t30))))))))))))))))))))))))))))) := (pss_cons h1 (pss_cons h2 (pss_cons h3 (pss_cons h4 (pss_cons h5 (pss_cons h6 (pss_cons h7 (pss_cons h8 (pss_cons h9 (pss_cons h10 (pss_cons h11 (pss_cons h12 (pss_cons h13 (pss_cons h14 (pss_cons h15 (pss_cons h16 (pss_cons h17 (pss_cons h18 (pss_cons h19 (pss_cons h20 (pss_cons h21 (pss_cons h22 (pss_cons h23 (pss_cons h24 (pss_cons h25 (pss_cons h26 (pss_cons h27 (pss_cons h28 (pss_cons h29 (pss_one h30))))))))))))))))))))))))))))))
end
end L2
set_option Elab.async false
set_option linter.all false
set_option maxRecDepth 100000
set_option maxHeartbeats 4000000
namespace L2
open PySem PySem.Spec PyProof.Rows
section
variable {X : Cx} {pins : List (Addr × Obj)} {σ : St} {H : Hp} {s : Shared} {h' : Heap}
theorem Inv.turnedNew {t' : Nat} {ch : List Addr} {T : Addr} {xs : List V} (I : Inv X pins σ H s) (hf : ∀ b ∈ ch, FpOk X pins H b) (k : ∀ b o, b ∉ ch → s.heap.get? b = some o → h'.get? b = some o)
    (hT : s.heap.objs.size ≤ T) (new : ObjOk X.prog X.w (upd H T (.tup xs)) h' T (.tup xs)) : Inv X pins σ (upd H T (.tup xs)) { s with heap := h', toks := t' } := by
  have hn : H T = none := I.hok.fresh hT
  have nit : ∀ b u, H b = some u → b ∉ ch := fun b u e z => by rw [(hf b z).1] at e; cases e
  refine I.step (g' := s.gens) (d' := s.drawn) (ch := ch) (fun b hb => ?_) (fun b o _ _ hc e _ => k b o hc e) (fun b o _ _ hc e _ => ⟨o.slots, k b o hc e⟩) (fun b o _ e n => ?_)
    (fun b o hc e => ⟨o, k b o hc e⟩) (fun b ys e => ?_) (fun b o u e => ?_) (fun b ps e => ⟨#[], ?_⟩) (fun m hm => ?_) (fun b u e => ?_) I.bare
  · obtain ⟨_, f1, _, f3, f4, f5⟩ := hf b hb
    exact ⟨f3, f1, f4, f5⟩
  · rw [upd_ne (Nat.ne_of_lt (Nat.lt_of_lt_of_le (Heap.lt_size e) hT))]; exact n
  · rw [upd_ne (ne_of_none e hn)]; exact e
  · rw [upd_ne (ne_of_none e hn)]; exact e
  · rw [upd_ne (ne_of_none e hn), e]; simp
  · obtain ⟨o, es, ep, ho, r⟩ := hm
    exact ⟨o, es, ep, k _ o (fun z => (hf _ z).2.1 rfl) ho, r⟩
  · by_cases hb : b = T
    · subst hb; rw [upd_same] at e; cases e; exact new
    · rw [upd_ne hb] at e
      refine (I.hok b u e).stay (fun c v hc q => k c v ?_ q) (fun c q => by rw [upd_ne (ne_of_none q hn)]; exact q) fun c ys q => by rw [upd_ne (ne_of_none q hn)]; exact q
      rcases hc with z | z
      · rw [z]; exact nit b u e
      · exact nit c _ z
theorem Inv.turnedL {t' : Nat} {ch : List Addr} (I : Inv X pins σ H s) (hf : ∀ b ∈ ch, FpOk X pins H b) (k : ∀ b o, b ∉ ch → s.heap.get? b = some o → h'.get? b = some o) : Inv X pins σ H { s with heap := h', toks := t' } := by
  have nit : ∀ b u, H b = some u → b ∉ ch := fun b u e z => by rw [(hf b z).1] at e; cases e
  refine I.step (g' := s.gens) (d' := s.drawn) (ch := ch) (fun b hb => ?_) (fun b o _ _ hc e _ => k b o hc e) (fun b o _ _ hc e _ => ⟨o.slots, k b o hc e⟩) (fun _ _ _ _ n => n)
    (fun b o hc e => ⟨o, k b o hc e⟩) (fun _ _ e => e) (fun _ _ _ e => e) (fun b ps e => ⟨#[], by rw [e]; simp⟩) (fun m hm => ?_) (fun b u e => ?_) I.bare
  · obtain ⟨_, f1, _, f3, f4, f5⟩ := hf b hb
    exact ⟨f3, f1, f4, f5⟩
  · obtain ⟨o, es, ep, ho, r⟩ := hm
    exact ⟨o, es, ep, k _ o (fun z => (hf _ z).2.1 rfl) ho, r⟩
  · refine (I.hok b u e).stay (fun c v hc q => k c v ?_ q) (fun _ q => q) fun _ _ q => q
    rcases hc with z | z
    · rw [z]; exact nit b u e
    · exact nit c _ z
end
def Itz (K : PySem.W.Frag) (l1 l2 : Addr) : It :=
  ⟨fun i H => ∃ xs ys x y, SqL K H l1 xs ∧ SqL K H l2 ys ∧ xs[i]? = some x ∧ ys[i]? = some y,
   fun i H v H' => ∃ T x y, H T = none ∧ v = .ref T ∧ H' = upd H T (.tup [x, y]) ∧ (∀ xs, SqL K H l1 xs → xs[i]? = some x) ∧ (∀ ys, SqL K H l2 ys → ys[i]? = some y),
   fun i H => ∃ xs ys, SqL K H l1 xs ∧ SqL K H l2 ys ∧ (xs.length ≤ i ∨ ys.length ≤ i)⟩
def ZipSt (z TI TO i1 i2 l1 l2 : Addr) (i : Nat) (h : Heap) : Prop := ∃ a b, IsZip h z TI TO .none ∧ IsPair h TI (.ref i1) (.ref i2) ∧ IsPair h TO a b ∧ h.IsListIter i1 l1 i ∧ h.IsListIter i2 l2 i
theorem turn_zip {P : Program} {w : World} {K : PySem.W.Frag} {elts : List Expr} {x1 : Nat} {pos : Pos} {z TI TO i1 i2 l1 l2 : Addr} (D : ZipApart z TI TO i1 i2 l1 l2) :
    Turn P w K (.Tuple elts x1 pos) (Itz K l1 l2) [z, TI, TO, i1, i2] z (ZipSt z TI TO i1 i2 l1 l2) where
  mem := by simp
  obj := fun i h st b hb => by
    obtain ⟨a, b', hz, hTI, hTO, h1, h2⟩ := st
    simp only [List.mem_cons, List.not_mem_nil, or_false] at hb
    rcases hb with rfl | rfl | rfl | rfl | rfl
    · exact ⟨_, hz, fun v q => by cases q⟩
    · exact ⟨_, hTI, fun v q => by cases q⟩
    · exact ⟨_, hTO, fun v q => by cases q⟩
    · obtain ⟨o, e, c, d⟩ := h1
      exact ⟨o, e, fun v q => by rw [d] at q; cases q⟩
    · obtain ⟨o, e, c, d⟩ := h2
      exact ⟨o, e, fun v q => by rw [d] at q; cases q⟩
  keep := fun i h h' st k => by
    obtain ⟨a, b', hz, hTI, hTO, h1, h2⟩ := st
    exact ⟨a, b', k z (by simp) _ hz, k TI (by simp) _ hTI, k TO (by simp) _ hTO, h1.at fun o e => k i1 (by simp) o e, h2.at fun o e => k i2 (by simp) o e⟩
  item := by
    intro X hP hw hK hc i pins s σ H E I hf st hg
    subst hP hw hK
    obtain ⟨xs, ys, x, y, hq1, hq2, hx, hy⟩ := hg
    obtain ⟨a, b', hz, hTI, hTO, h1, h2⟩ := st
    obtain ⟨its1, rv1, p1, _⟩ := I.list hq1
    obtain ⟨its2, rv2, p2, _⟩ := I.list hq2
    obtain ⟨u1, hu1, ru1⟩ := rv1.get hx
    obtain ⟨u2, hu2, ru2⟩ := rv2.get hy
    refine wpAny_pyNext_zip_item D hz hTI hTO h1 h2 p1.isList p2.isList (x := u1) (y := u2) (by simpa using hu1) (by simpa using hu2) fun h₁ z1 t1 j1 j2 pr sz kk => ⟨_, rfl, ?_⟩
    refine wpAny_letOwnedTupleGo_zip z1 fun h₂ z2 sb => ?_
    have lt : ∀ b ∈ [z, TI, TO, i1, i2], b ≠ s.heap.objs.size := fun b hb e => by
      have : ∃ o, s.heap.get? b = some o := by
        simp only [List.mem_cons, List.not_mem_nil, or_false] at hb
        rcases hb with rfl | rfl | rfl | rfl | rfl
        · exact ⟨_, hz⟩
        · exact ⟨_, hTI⟩
        · exact ⟨_, hTO⟩
        · obtain ⟨o, e, _⟩ := h1; exact ⟨o, e⟩
        · obtain ⟨o, e, _⟩ := h2; exact ⟨o, e⟩
      obtain ⟨o, q⟩ := this
      exact absurd (Heap.lt_size q) (by rw [e]; exact Nat.lt_irrefl _)
    have nz : ∀ {b : Addr}, b ≠ z → ∀ {o}, h₁.get? b = some o → h₂.get? b = some o := fun {b} hb {o} e => (sb.2 b hb).trans e
    have zT : s.heap.objs.size ≠ z := (lt z (by simp)).symm
    have hnT : H s.heap.objs.size = none := I.hok.fresh (Nat.le_refl _)
    have new : ObjOk X.prog X.w (upd H s.heap.objs.size (.tup [x, y])) h₂ s.heap.objs.size (.tup [x, y]) :=
      ⟨by show 2 ≤ sizeLine; decide, [u1, u2], .cons ru1 (.cons ru2 .nil), ⟨_, nz zT pr, rfl, _, rfl⟩⟩
    have I1 := Inv.turnedNew (h' := h₂) (t' := s.toks) (ch := [z, TI, TO, i1, i2]) I hf (fun b o hb e => nz (by simp at hb; exact hb.1) (kk b o (by simp at hb; exact hb.1) (by simp at hb; exact hb.2.2.1) (by simp at hb; exact hb.2.2.2.1) (by simp at hb; exact hb.2.2.2.2) e)) (Nat.le_refl _) new
    refine ⟨.ref s.heap.objs.size, _, I1, rfl, ⟨_, x, y, hnT, rfl, rfl, fun ys' hy' => by rw [I.list_inj hy' hq1]; exact hx, fun ys' hy' => by rw [I.list_inj hy' hq2]; exact hy⟩, ⟨u1, u2, z2, ?_, ?_, ?_, ?_⟩, fun b hb => by rw [upd_ne (lt b hb)]; exact (hf b hb).1⟩
    · exact nz D.TIz (kk TI _ D.TIz D.TITO D.TIi1 D.TIi2 hTI)
    · exact nz D.TOz t1
    · exact j1.at fun o e => nz D.i1z e
    · exact j2.at fun o e => nz D.i2z e
  done := by
    intro X hP hw hK hc i pins s σ H E I hf st hg
    subst hP hw hK
    obtain ⟨xs, ys, hq1, hq2, hl⟩ := hg
    obtain ⟨a, b', hz, hTI, hTO, h1, h2⟩ := st
    obtain ⟨its1, rv1, p1, _⟩ := I.list hq1
    obtain ⟨its2, rv2, p2, _⟩ := I.list hq2
    have e1 := rv1.length
    have e2 := rv2.length
    refine wpAny_pyNext_zip_end (I.ok.hd hc) D hz hTI hTO h1 h2 p1.isList p2.isList ?_ fun h₁ kk => ⟨rfl, ?_⟩
    · rcases hl with hl | hl
      · exact .inl (by simp; omega)
      · exact .inr (by simp; omega)
    · exact I.turnedL (t' := s.toks) (ch := [z, TI, TO, i1, i2]) hf (fun b o hb e => kk b o (by simp at hb; exact hb.1) (by simp at hb; exact hb.2.2.1) (by simp at hb; exact hb.2.2.2.1) (by simp at hb; exact hb.2.2.2.2) e)
  self := fun _ _ _ _ _ st h => by
    obtain ⟨a, b', hz, _⟩ := st
    exact wpAny_pyIter_zip hz h
section
variable {X : Cx}
def iZip (K : PySem.W.Frag) (ta : TA) : TI := fun σ H R => ta σ H fun vs H1 => ∃ l1 l2 xs ys, vs = [.ref l1, .ref l2] ∧ SqL K H1 l1 xs ∧ SqL K H1 l2 ys ∧ R (Itz K l1 l2) H1
theorem bt_zip : bootBuiltins "zip" = some (.type "zip") := by decide +kernel
theorem pi_zip {a b : Expr} {ta : TA} {p pos tpos : Pos} {elts : List Expr} {x1 : Nat} (hg : Gl X "zip") (hm : X.mg "zip" = none) (ha : PA X [a, b] ta) (hs : starEach [a, b] X.env = [(false, eval a X.env), (false, eval b X.env)] := by rfl)
    (hs2 : starEach [b] X.env = [(false, eval b X.env)] := by rfl) : PI X (.Tuple elts x1 tpos) (.Call (.Name "zip" p) [a, b] [] pos) (iZip X.K ta) := by
  intro pins s σ H R I h
  refine Call_ (ld_blt I hg hm bt_zip (PyProof.Rows.callWith_type1 (thn (ha pos pins s σ H _ I h) fun us s1 ⟨vs, H1, I1, r1, q1⟩ => ?_) (by rw [hs, hs2]) (by rw [hs2]; rfl)))
  obtain ⟨l1, l2, xs, ys, e, hq1, hq2, q⟩ := q1
  subst e
  obtain ⟨u, w', rfl, ru, rw'⟩ := vals2 r1
  cases ru
  cases rw'
  obtain ⟨its1, rv1, p1, _⟩ := I1.list hq1
  obtain ⟨its2, rv2, p2, _⟩ := I1.list hq2
  refine call_zip_2 p1.isList p2.isList fun h' hz hTI hTO hi1 hi2 sz kk => ?_
  refine wpAny_pyIter_zip hz ?_
  have D := zipApart_new (n := s1.heap.objs.size) p1.lt p2.lt
  have I2 : Inv X pins σ H1 { s1 with heap := h' } := I1.kept (t' := s1.toks) kk
  refine ⟨_, _, _, _, H1, rfl, I2, turn_zip D, ⟨_, _, hz, hTI, hTO, hi1, hi2⟩, fun b hb => ?_, q⟩
  have hb' : s1.heap.objs.size ≤ b := by
    simp only [List.mem_cons, List.not_mem_nil, or_false] at hb
    rcases hb with rfl | rfl | rfl | rfl | rfl
    · exact Nat.le_add_right _ _
    · exact Nat.le_add_right _ _
    · exact Nat.le_add_right _ _
    · exact Nat.le_refl _
    · exact Nat.le_add_right _ _
  exact I1.fpOk hb' (I1.hok.fresh hb')
end
theorem for_zip {K : PySem.W.Frag} {l1 l2 : Addr} {xs ys : List V} {g : TG} {tb : TS} {D : Ends} {σ : St} {H : Hp} (Pv : Nat → St → Hp → Prop) (h0 : Pv 0 σ H) (hl : ∀ i σ H, Pv i σ H → SqL K H l1 xs ∧ SqL K H l2 ys) (he : xs.length = ys.length)
    (hs : ∀ i x y T σ H, xs[i]? = some x → ys[i]? = some y → Pv i σ H → H T = none → g (.ref T) σ (upd H T (.tup [x, y])) fun σ2 H2 => tb { D with nx := Pv (i + 1), ct := Pv (i + 1), bk := D.nx } σ2 H2) (hd : ∀ σ H, Pv xs.length σ H → D.nx σ H) :
    ∃ W : Nat → Nat → St → Hp → Prop, (∃ m, W 0 m σ H) ∧ ∀ i m σ H, W i m σ H →
      ((Itz K l1 l2).stop i H ∧ D.nx σ H) ∨ ((Itz K l1 l2).go i H ∧ ∃ N : St → Hp → Prop, (∀ σ' H', N σ' H' → ∃ m', m' < m ∧ W (i + 1) m' σ' H') ∧ ∀ x H', (Itz K l1 l2).yld i H x H' → g x σ H' fun σ2 H2 => tb { D with nx := N, ct := N, bk := D.nx } σ2 H2) := by
  refine ⟨fun i m σ H => m = xs.length - i ∧ i ≤ xs.length ∧ Pv i σ H, ⟨xs.length, by simp, Nat.zero_le _, h0⟩, ?_⟩
  rintro i m σ H ⟨rfl, hi, p⟩
  obtain ⟨q1, q2⟩ := hl i σ H p
  by_cases hlt : i < xs.length
  · have hlt2 : i < ys.length := by omega
    refine .inr ⟨⟨xs, ys, xs[i], ys[i], q1, q2, by simp [hlt], by simp [hlt2]⟩, Pv (i + 1), fun σ' H' p' => ⟨xs.length - (i + 1), by omega, rfl, hlt, p'⟩, fun v H' y => ?_⟩
    obtain ⟨T, x, y, hT, rfl, rfl, y1, y2⟩ := y
    exact hs i x y T σ H (y1 xs q1) (y2 ys q2) p hT
  · have e : i = xs.length := by omega
    subst e
    exact .inl ⟨⟨xs, ys, q1, q2, .inl (Nat.le_refl _)⟩, hd σ H p⟩
end L2
set_option Elab.async false
set_option linter.all false
set_option maxRecDepth 100000
set_option maxHeartbeats 4000000
namespace L2
open PySem PySem.Spec PyProof.Rows
section
variable {P : Program} {w : World} {H : Hp} {h : Heap} {a : Addr} {o : HO}
theorem ObjOk.there (x : ObjOk P w H h a o) : ∃ u, h.get? a = some u := by
  cases o with
  | lst xs => obtain ⟨_, _, _, _, e⟩ := x; exact ⟨_, e⟩
  | tup xs => obtain ⟨_, _, _, o, e, _⟩ := x; exact ⟨o, e⟩
  | dK kvs => obtain ⟨_, _, _, _, o, _, _, e, _⟩ := x; exact ⟨o, e⟩
  | dT kvs => obtain ⟨_, _, _, _, o, _, _, e, _⟩ := x; exact ⟨o, e⟩
  | set S n => obtain ⟨o, _, _, _, e, _⟩ := x; exact ⟨o, e⟩
  | ins C dx fs => obtain ⟨_, _, _, e, _⟩ := x; exact ⟨_, e⟩
  | own y => exact x
  | xd fs => obtain ⟨_, ⟨o, _, _, e, _⟩, _⟩ := x; exact ⟨o, e⟩
  | rng lo hi => obtain ⟨_, _, _, e⟩ := x; exact ⟨_, e⟩
  | frz ob u => exact ⟨ob, x.1⟩
  | tbl ps => exact ⟨_, x⟩
  | met f y => exact ⟨_, x⟩
  | ext φ => exact x.2.1
theorem HOk.free_of (x : HOk P w H h) (e : h.get? a = none) : H a = none := by
  cases q : H a with
  | none => rfl
  | some u =>
    obtain ⟨v, hv⟩ := (x a u q).there
    rw [e] at hv; cases hv
end
structure Fly (P : Program) (w : World) (outer : List Env) (H H' : Hp) (h h' : Heap) (e : Addr) (cls : Value) : Prop where
  un : Un (frs outer) [] H H' h h'
  new : h.get? e = none
  fly : ∃ (B : Heap) (a0 : Value), Heap.FlyingW B outer e cls a0 h' ∧ HOk P w H' B ∧ (∀ b o, h.get? b = some o → H b = none → b ∉ frs outer → B.get? b = some o) ∧ ∀ b o, h.get? b = some o → b ∉ frs outer → ∃ o', B.get? b = some o'
def CXr (P : Program) (w : World) : CXT := fun outer H s E e s' => ∃ (ea : Addr) (cls : Value) (H' : Hp), e = .ref ea ∧ s'.os = s.os ∧ AllBare s'.gens ∧ Fly P w outer H H' s.heap s'.heap ea cls ∧ E cls none H'
theorem passR {P : Program} {w : World} {X : Cx} : Passes (CXr P w) X E0 := fun _ _ _ _ _ _ _ h => by
  obtain ⟨_, _, _, _, _, _, _, z⟩ := h
  exact z.elim
def Raises (X : Cx) (E : XK) : Prop := ∀ (pins : List (Addr × Obj)) (σ : St) (H : Hp) (s : Shared) (h' : Heap) (e : Addr) (cls : Value) (vs : List Value), Inv X pins σ H s → Heap.MadeExcOf s.heap h' e cls vs → E cls none H → X.xe (.ref e) { s with heap := h' }
section
variable {P : Program} {w : World} {K : PySem.W.Frag} {mg : Str → Option Value} {base : Heap} {N : List Str} {qual : Str} {scope : Scope} {f : Addr} {cd : Value} {A : Around} {outer : List Env} {s₀ : Shared} {H₀ : Hp} {E : XK}
theorem raises_cx : Raises (cxOf (CXr P w) P w K mg base N qual scope f cd A outer s₀ H₀ E) E := by
  intro pins σ H s h' e cls vs I hx hE
  have nst : ∀ b u, H b = some u → b ∉ frs (envOfC qual scope s₀.heap.objs.size f cd :: outer) := fun b u q z => by
    have := I.stkFree b z
    rw [q] at this; cases this
  have inB : ∀ b o, s.heap.get? b = some o → b ∉ frs (envOfC qual scope s₀.heap.objs.size f cd :: outer) → (PySem.W.hideAll s.heap (frs (envOfC qual scope s₀.heap.objs.size f cd :: outer))).get? b = some o := fun b o q n => PySem.W.hideAll_get _ q n
  have old : ∀ b o, s₀.heap.get? b = some o → b ∉ frs outer → b ∉ frs (envOfC qual scope s₀.heap.objs.size f cd :: outer) := fun b o q n z => by
    rcases List.mem_cons.mp (I.stkSub b z) with r | r
    · exact absurd (Heap.lt_size q) (by rw [r]; exact Nat.not_lt.mpr I.ok.above)
    · exact n r
  have hxn : ∀ b, b ∉ (cxOf (CXr P w) P w K mg base N qual scope f cd A outer s₀ H₀ E).ex := fun b z => absurd (show b ∈ ([] : List Addr) from z) (by simp)
  have frn : ∀ b o, s.heap.get? b = some o → b ∈ frs outer → ∀ vs, o.data ≠ .fields vs := fun b o q z => by
    obtain ⟨_, o', q', d⟩ := I.funs.mem z
    rw [q] at q'; cases q'
    exact d
  refine wpAny_leaves_madeW (base := PySem.W.hideAll s.heap (frs (envOfC qual scope s₀.heap.objs.size f cd :: outer))) (h := s.heap) (L := s₀.heap.objs.size) I.ok.frames rfl (fun b o q => PySem.W.of_hideAll _ q)
    (PySem.W.funFrames_hide I.stack fun env he b hb => List.mem_filterMap.mpr ⟨env, he, hb⟩) hx fun h'' t x1 x2 x3 x4 => ?_
  have up : s.heap.UpToSlots h'' := (Heap.UpToSlots.of_keeps hx.keeps).trans x4
  refine ⟨e, cls, H, rfl, I.os, I.bare, ⟨⟨fun b o q n hb _ => ?_, fun b o q n hb _ => ?_, fun b o q n _ => I.base.free b o q n (hxn b), fun b o q _ => ?_, I.base.tups, I.base.frzs, I.base.tbls⟩, ?_, _, _, x1, fun b u q => ?_, fun b o q n hb => ?_, fun b o q hb => ?_⟩, hE⟩
  · exact x1.1 b o (inB b o (I.base.keep b o q n hb (hxn b)) (old b o q hb))
  · obtain ⟨sl, q1⟩ := I.base.slot b o q n hb (hxn b)
    obtain ⟨sl', q2⟩ := up b _ q1 (frn b _ q1 hb)
    exact ⟨sl', q2⟩
  · obtain ⟨o', q1⟩ := I.base.there b o q (hxn b)
    by_cases hb : b ∈ frs outer
    · obtain ⟨sl', q2⟩ := up b _ q1 (frn b _ q1 hb)
      exact ⟨_, q2⟩
    · exact ⟨o', x1.1 b o' (inB b o' q1 (old b o q hb))⟩
  · cases q : s₀.heap.get? e with
    | none => rfl
    | some o =>
      obtain ⟨o', q1⟩ := I.base.there e o q (hxn e)
      rw [hx.new] at q1; cases q1
  · refine (I.hok b u q).stay (fun c v hc r => inB c v r ?_) (fun _ r => r) fun _ _ r => r
    rcases hc with z | z
    · rw [z]; exact nst b u q
    · exact nst c _ z
  · exact inB b o (I.base.keep b o q n hb (hxn b)) (old b o q hb)
  · obtain ⟨o', q1⟩ := I.base.there b o q (hxn b)
    exact ⟨o', inB b o' q1 (old b o q hb)⟩
theorem Fun.okX {x qual : Str} {st : Stmt} {f : Addr} {fd : FuncData} {N ps : List Str} {k : Nat} {sp : Sp} (F : Fun K x qual st f fd) (S : FnScope N ps (defScope st)) (len : ∀ vs H Q E, sp vs H Q E → vs.length = ps.length)
    (hb : ∀ (cdv : Value) (A : Around) (outer : List Env) (s : Shared) (H : Hp) (vs : List V) (Q : VK) (E : XK), Room k (A.deeper (envOfC qual (defScope st) s.heap.objs.size f cdv)) → sp vs H Q E →
      ∃ t, PSs (cxOf (CXr P w) P w K mg base N qual (defScope st) f cdv A outer s H E) (defBody st) t ∧ t { nx := fun _ H' => Q .non H', rt := Q } (start N vs) H) : FnOk P w K mg base (CXr P w) (k + 1) f fd ps sp := by
  obtain ⟨oc, od, kV, doc, pm, an, cdv, ct, osl, rfl, lk, hcd⟩ := F.ex
  exact fn_of lk hcd S len fun A outer s H vs Q E hr hsp => hb cdv A outer s H vs Q E hr hsp
end
structure XC (K : PySem.W.Frag) (C : Addr) : Prop where
  own : PySem.W.excIn K C [.type "ValueError", .type "Exception", .type "BaseException", .type "object"] "ValueError.__new__" = true
section
variable {K : PySem.W.Frag} {h : Heap} {C : Addr} {bmB : List Value} {newId : String}
theorem exc_obj (X : K.In h) (q : PySem.W.excIn K C bmB newId = true) : ∃ bm N nm qn bs hd sn sub ab col dd k0 k1 k2 k3 k5 mN, h.get? C = some (excClassObj nm qn C N bs bm hd sn sub ab col dd k0 k1 k2 k3 k5 newId) ∧ h.Ns N mN ∧ mN "__init__" = none ∧ OwnTail h bmB bm := by
  unfold PySem.W.excIn at q
  split at q
  · rename_i dd cd sl ho
    split at q
    · rename_i C' bm k0 k1 k2 k3 n k5 hm hs
      rw [Bool.and_eq_true, Bool.and_eq_true, Bool.and_eq_true, Bool.and_eq_true, Bool.and_eq_true] at q
      obtain ⟨⟨⟨⟨⟨z1, z2⟩, z3⟩, z4⟩, z5⟩, z6⟩ := q
      have e1 : C' = C := beq_iff_eq.mp z1
      have e2 : n = newId := beq_iff_eq.mp z2
      have e6 := beq_iff_eq.mp z6
      have e3 : cd.hasDel = false := by cases hh : cd.hasDel with | false => rfl | true => rw [hh] at z3; cases z3
      have key := X _ _ ho
      have ks : sl = #[k0, k1, k2, k3, some (.builtin n), k5] := by cases sl with | mk l => exact congrArg Array.mk hs
      rw [ks] at key
      subst e1 e2
      cases cd with
      | mk nm bs mro ns qn hd sn sub ab col del =>
        have hm' : mro = .ref C' :: bm := hm
        have e3' : del = false := e3
        subst hm' e3'
        exact ⟨bm, ns, nm, qn, bs, hd, sn, sub, ab, col, dd, k0, k1, k2, k3, k5, h.nsMap ns, key, .of_isNs (PySem.W.isNs_of_in X z5), PySem.W.nsMap_none_of_in X z5 e6, PySem.W.tail_of_in X z4⟩
    · cases q
  · cases q
end
def tRaise (C : Addr) (E : XK) (ta : TA) : TS := fun _ σ H => ta σ H fun vs H1 => vs.length ≤ sizeLine ∧ E (.ref C) none H1
section
variable {X : Cx} {C : Addr} {E : XK} {x : Str} {np cpos pos : Pos} {e : Expr} {es : List Expr} {ta : TA}
theorem ps_raise (hx : Raises X E) (hh : X.A.handled = none) (hc : XC X.K C) (hg : Gl X x) (hm : X.mg x = some (.ref C)) (ha : PA X (e :: es) ta) (hdb : (x == ("__debug__" : Str)) = false := by decide)
    (he : starEach (e :: es) X.env = (false, eval e X.env) :: starEach es X.env := by rfl) (hpl : (backTo cpos (starEach es X.env)).any (·.1) = false := by rfl) :
    PS X (.Raise (some (.Call (.Name x np) (e :: es) [] cpos)) none pos) (tRaise C E ta) := by
  intro pins s σ H D I h
  obtain ⟨bm, N, nm, qn, bs, hd, sn, sub, ab, col, dd, k0, k1, k2, k3, k5, mN, hC, hN, hni, T⟩ := exc_obj I.ok.mod.kin hc.own
  refine wpAny_Raise_call_subU (C := C) (N := N) (nm := nm) (q := qn) (bs := bs) (bm := bm) (hdct := hd) (sn := sn) (sub := sub) (ab := ab) (col := col) (dd := dd) (k0 := k0) (k1 := k1) (k2 := k2) (k3 := k3) (k5 := k5) (mN := mN)
    PySem.F.excBase_ValueError (by decide +kernel) PySem.F.excBase_ValueError (T.hasType PySem.F.excBase_ValueError.hasBase) hh (by rw [he]; exact hpl) hni (ld_glob I hg hm ⟨rfl, ?_⟩ hdb)
  have z := thn (ha cpos pins s σ H _ I h) fun us s1 ⟨vs, H1, I1, r, hl, q⟩ => show us.length ≤ sizeLine ∧ X.K.In s1.heap ∧ (∀ b o, X.base.get? b = some o → s1.heap.get? b = some o) ∧ ∀ h' e, Heap.MadeExcOf s1.heap h' e (.ref C) us → X.xe (.ref e) { s1 with heap := h' } from
    ⟨by rw [← r.length]; exact hl, I1.kIn, I1.bk, fun h' e hm => hx pins σ H1 s1 h' e _ us I1 hm q⟩
  rw [he] at z ⊢
  exact Calls.evalArgs_plain (thn z fun us s1 ⟨hl, _, bk, q⟩ => ⟨rfl, hl, bk _ _ hC, hN.keeps bk, T.keeps bk, q⟩)
end
end L2
set_option Elab.async false
set_option linter.all false
set_option maxRecDepth 100000
set_option maxHeartbeats 4000000
namespace L2
open PySem PySem.Spec PyProof.Rows
theorem bt_ValueError : bootBuiltins "ValueError" = some (.type "ValueError") := by decide +kernel
structure XI (K : PySem.W.Frag) (D : Addr) : Prop where
  ga : PySem.W.findIn K (.ref D) "__getattribute__" = some (some (.builtin "BaseException.__getattribute__"))
  gn : PySem.W.findIn K (.ref D) "__getattr__" = some none
  cl : PySem.W.findIn K (.ref D) "__class__" = some (some (.builtin "object.__class__"))
  get : PySem.W.specialIn K (.builtin "object.__class__") "__get__" = some (some (.builtin "getset_descriptor.__get__"))
  tk : PySem.W.takesIn K (.builtin "object.__class__") = some true
  ob : PySem.W.mroIn K D (.type "object") = some true
  be : PySem.W.mroIn K D (.type "BaseException") = some true
theorem XI.cls {K : PySem.W.Frag} {D : Addr} (F : XI K D) : (PySem.W.clsIn K D).isSome = true := by
  have z := F.ob
  unfold PySem.W.mroIn at z
  cases q : PySem.W.clsIn K D with
  | none => rw [q] at z; cases z
  | some cd => rfl
def XAt (a D : Addr) (h : Heap) : Prop := ∃ o vs, h.get? a = some o ∧ o.cls = .ref D ∧ o.data = .fields vs
section
variable {prog : Program} {w : World} {A : Around} {E : Value → Shared → Prop} {s : Shared} {K : PySem.W.Frag} {a D : Addr}
theorem XAt.ty {M : Model} {h : Heap} (x : XAt a D h) : PySem.W.Looks M h (typeOf (.ref a)) (.ref D) := by
  obtain ⟨o, vs, e, c, _⟩ := x
  exact c ▸ (PySem.W.Looks.ld e).andThen .now
theorem XI.find {M : Model} {h : Heap} (X : K.In h) (F : XI K D) : PySem.W.Looks M h (Builtin.ObjectAttr.find (.ref a) (.ref D) "__class__") (Builtin.ObjectAttr.Found.bind (.builtin "getset_descriptor.__get__") (.builtin "object.__class__")) :=
  (PySem.W.looks_findIn X F.cl).andThen ((PySem.W.looks_specialIn X F.get).andThen
    ((show PySem.W.Looks M h (Builtin.ObjectAttr.dataDescriptor? (some (.builtin "object.__class__")) (some (.builtin "getset_descriptor.__get__"))) (some (.builtin "getset_descriptor.__get__", .builtin "object.__class__")) from (PySem.W.looks_takesIn X F.tk).andThen .now).andThen (PySem.W.Looks.tag .now)))
theorem ga_kind : builtinKind "BaseException.__getattribute__" = some .slot := by decide +kernel
theorem ga_split : splitId "BaseException.__getattribute__" = some ("BaseException", "__getattribute__") := by decide +kernel
theorem ga_quiet (args : Args) : (Code.builtin "BaseException.__getattribute__" args).quiet = true := Code.quiet_builtin _ (by decide +kernel)
theorem ga_args {M : Model} {args : Args} {Q : Unit → Shared → Prop} (ck : argsOk "BaseException.__getattribute__" args) (h : Q () s) :
    wpAny M A (match Manifest.signature? "BaseException.__getattribute__" with | some sig => Bind.checkArgs "BaseException.__getattribute__" sig args | x => pure ()) Q E s := by
  unfold argsOk at ck
  split at ck
  · rename_i sig hs
    rw [hs]
    have ck' : Bind.checkArgs "BaseException.__getattribute__" sig args = pure () := ck
    dsimp only
    rw [ck']
    exact wpAny_pure h
  · rename_i hs
    rw [hs]
    exact wpAny_pure h
theorem exc_class {Q : Option Value → Shared → Prop} (X : K.In s.heap) (F : XI K D) (x : XAt a D s.heap) (h : Q (some (.ref D)) { s with toks := s.toks + 1 }) : wpAny (model prog w) A (getAttr? (.ref a) "__class__") Q E s := by
  have L0 := x.ty (M := model prog w)
  have L1 := PySem.W.looks_findIn (M := model prog w) X F.ga
  have L2 := PySem.W.looks_findIn (M := model prog w) X F.gn
  have L3 := PySem.W.looks_mroIn (M := model prog w) X F.be
  have L4 := F.find (M := model prog w) (a := a) X
  obtain ⟨hh, g, dr, t, os⟩ := s
  have ne : (Value.builtin "BaseException.__getattribute__" == Value.builtin "object.__getattribute__") = false := by decide +kernel
  have n1 : ¬ ((onTheHeap (Value.ref D) && Value.builtin "BaseException.__getattribute__" == Value.builtin "object.__getattribute__") = true) := by rw [ne, Bool.and_false]; exact Bool.false_ne_true
  unfold getAttr? getAttrBy? getAttrBy
  refine wpAny_bind (wpAny_mkText (wpAny_bind (wpAny_attempt (wpAny_holding (wpAny_bind (L0.at (wpAny_bind (L1.at ?_))))))))
  dsimp only
  rw [if_neg n1]
  unfold getAttrByItsOwn hookBefore
  refine wpAny_bind ?_
  rw [if_pos (show onTheHeap (Value.ref D) = true from rfl)]
  refine L2.at (wpAny_bind (wpAny_attempt (wpAny_holding ?_)))
  unfold callGetattribute boundAndCalled
  rw [if_neg (show ¬ ((false && onTheHeap (Value.builtin "BaseException.__getattribute__")) = true) from Bool.false_ne_true)]
  refine wpAny_bind (wpAny_of_eq (PySem.F.excAttr_ValueError.ga.bind (.ref a)) ?_)
  refine wpAny_call (codeAny_call_builtin PySem.F.excAttr_ValueError.ga.plain PySem.F.entry_bexc_ga ?_)
  simp only [checkBuiltinCall, ga_kind, ga_split]
  have LI : PySem.W.Looks (model prog w) hh (isInstance (.ref a) (.type "BaseException")) true := L0.andThen L3
  have ck := PySem.F.args_bexc_ga (.ref a) (.str "__class__" t)
  show wpAny _ _ (isInstance (.ref a) (.type "BaseException") >>= _) _ _ _
  refine wpAny_bind (LI.at ?_)
  simp only [Bool.not_true, Bool.false_eq_true, if_false]
  refine ga_args ck ?_
  show wpAny _ _ (Builtin.«object.__getattribute__» ⟨[.ref a, .str "__class__" t], []⟩) _ _ _
  unfold Builtin.«object.__getattribute__»
  have e1 : slotArgs "__getattribute__" 1 ⟨[.ref a, .str "__class__" t], []⟩ = pure (.ref a, [.str "__class__" t]) := rfl
  refine wpAny_bind (wpAny_of_eq e1 ?_)
  have e2 : Builtin.ObjectAttr.attrName (.str "__class__" t) = pure "__class__" := rfl
  refine wpAny_bind (wpAny_of_eq e2 (wpAny_bind (L0.at (wpAny_bind (L4.at ?_)))))
  have L5 := PySem.W.looks_mroIn (M := model prog w) X F.ob
  have L6 : PySem.W.Looks (model prog w) hh (isInstance (.ref a) (.type "object")) true := L0.andThen L5
  show wpAny _ _ (holding [Value.builtin "object.__class__"] (call (.builtin "getset_descriptor.__get__") [.builtin "object.__class__", .ref a, .ref D]) >>= fun v => ret v) _ _ _
  refine wpAny_bind (wpAny_holding (wpAny_call ?_))
  refine codeAny_call_builtin PySem.W.KF.slot_gs.plain PySem.W.KF.entry_gs (PySem.W.KF.slot_gs.check _ _ _ _ _ _ _ _ PySem.W.KF.type_class (PySem.W.KF.args_gs _ _ _) ?_)
  unfold Builtin.«getset_descriptor.__get__» Builtin.Getset_descriptor.descrGet
  rw [PySem.W.dga_obj]
  refine wpAny_bind (wpAny_pure ?_)
  unfold Builtin.Getset_descriptor.descrGetter Builtin.Getset_descriptor.descrCheckInstance Builtin.Getset_descriptor.descrNameAndClass
  simp only [PySem.W.KF.owner_class]
  refine wpAny_bind (wpAny_bind (wpAny_pure (wpAny_bind (L6.at ?_))))
  simp only [Bool.not_true, Bool.false_eq_true, if_false]
  refine wpAny_pure (wpAny_pure ⟨Code.quiet_builtin _ (by decide +kernel), codeAny_builtin PySem.W.KF.entry_class ?_⟩)
  unfold Builtin.«object.__class__» shownTypeOf
  refine wpAny_bind (wpAny_bind (L0.at ?_))
  dsimp only
  rw [if_neg (show ¬ ((Value.ref D == Value.type "builtin_function_or_method") = true) from fun z => by cases beq_iff_eq.mp z)]
  refine wpAny_pure (wpAny_pure ?_)
  refine wpAny_pure ?_
  exact PySem.W.handed_on rfl (wpAny_pure h)
theorem kitx_exc (F : XI K D) : PySem.W.KitX K (.ref a) (.ref D) (XAt a D) where
  ty := fun M h _ x => x.ty
  it := fun M h X _ => by
    have z := F.cls
    unfold PySem.W.clsIn at z
    split at z
    · rename_i ho
      intro A' Q' E' s' k q
      unfold isType loadHead
      exact wpAny_bind (wpAny_loadPart (k _ _ (X _ _ ho)) (wpAny_pure q))
    · cases z
  ne := fun h tp dd its n sl X e => by
    have z := F.cls
    unfold PySem.W.clsIn at z
    split at z
    · rename_i ho
      refine Bool.eq_false_iff.mpr fun q => ?_
      have e2 : D = tp := Value.ref.inj (beq_iff_eq.mp q)
      have e3 := X _ _ ho
      rw [e2, e] at e3
      cases e3
    · cases z
  ca := fun X x k => exc_class X F x k
end
def excO (a D : Addr) : HO := .ext (XAt a D)
def rIsiX (K : PySem.W.Frag) (c : Value) (cv : V) : List V → Hp → VK → Prop := fun xs H Q => ∃ a D b, xs = [.ref a, cv] ∧ H a = some (excO a D) ∧ XI K D ∧ PySem.W.kitOne K (.ref D) c = some b ∧ Q (.bl b) H
section
variable {X : Cx} {c : Value} {cv : V}
theorem call_isiX (hv : ∀ u, RelV cv u → u = c) : CallR X (.builtin "isinstance") (rIsiX X.K c cv) := by
  intro pins s σ H xs us Q I r h
  obtain ⟨a, D, b, rfl, ha, F, e, q⟩ := h
  obtain ⟨u, u2, rfl, ru, ru2⟩ := vals2 r
  cases ru
  cases hv _ ru2
  exact PySem.W.kia_one (kitx_exc F) I.kIn (I.hok a _ ha).1 e (by intro z; cases z) fun tk => ⟨.bl b, H, I.tok tk, rfl, q⟩
end
theorem call_isiR {X : Cx} {K : PySem.W.Frag} {C : Addr} (hK : X.K = K) : CallR X (.builtin "isinstance") (rIsiX K (.ref C) (.ref C)) := by subst hK; exact call_isiX fun _ r => r
theorem call_isiT {X : Cx} {K : PySem.W.Frag} {T : String} (hK : X.K = K) : CallR X (.builtin "isinstance") (rIsiX K (.type T) (.ty T)) := by subst hK; exact call_isiX fun _ r => r
abbrev Cx.tin (X : Cx) (W : Value → Shared → Prop) (pn : List (Addr × Obj)) : Cx := { X with xe := W, pn := pn }
abbrev Cx.hin (X : Cx) (ea : Addr) (pn : List (Addr × Obj)) : Cx := { X with A := X.A.mark (some (.ref ea)), calm := false, pn := pn, xe := fun _ _ => False }
theorem Cx.Ok.tin {X : Cx} (ok : X.Ok) (W : Value → Shared → Prop) (pn : List (Addr × Obj)) : (X.tin W pn).Ok :=
  ⟨ok.mod, ok.kind, ok.glob, ok.blt, ok.above, ok.inj, ok.has, ok.cab, ok.hd, ok.frames, ok.stk, ok.exf, ok.bs, ok.bsz, ok.noex, ok.exfs, ok.funs, ok.frf⟩
theorem Cx.Ok.hin {X : Cx} (ok : X.Ok) (ea : Addr) (pn : List (Addr × Obj)) : (X.hin ea pn).Ok :=
  ⟨ok.mod, ok.kind, ok.glob, ok.blt, ok.above, ok.inj, ok.has, ok.cab, fun z => (by cases z), ok.frames, ok.stk, ok.exf, ok.bs, ok.bsz, ok.noex, ok.exfs, ok.funs, ok.frf⟩
section
variable {X : Cx} {pins pins1 pn : List (Addr × Obj)} {σ : St} {H : Hp} {s : Shared} {W : Value → Shared → Prop} {ea : Addr}
theorem Inv.tin (I : Inv X pins σ H s) (W : Value → Shared → Prop) : Inv (X.tin W (X.pn ++ pins)) [] σ H s :=
  ⟨I.ok.tin _ _, I.os, I.bare, I.base, I.loc, I.cell, I.free, I.freeC, fun p hp => I.pin p (by simpa using hp), I.hok, I.len⟩
theorem Inv.hin (I : Inv (X.tin W pn) pins σ H s) (ok : X.Ok) (ea : Addr) : Inv (X.hin ea pn) pins σ H s := ⟨ok.hin _ _, I.os, I.bare, I.base, I.loc, I.cell, I.free, I.freeC, I.pin, I.hok, I.len⟩
theorem Inv.untin (I : Inv (X.tin W (X.pn ++ pins)) [] σ H s) (ok : X.Ok) : Inv X pins σ H s := ⟨ok, I.os, I.bare, I.base, I.loc, I.cell, I.free, I.freeC, fun p hp => I.pin p (by simpa using hp), I.hok, I.len⟩
theorem SP.untin {D : Ends} {f : Flow} {s' : Shared} (ok : X.Ok) (h : SP (X.tin W (X.pn ++ pins)) [] D f s') : SP X pins D f s' := by
  cases f with
  | next => obtain ⟨σ', H', I, q⟩ := h; exact ⟨σ', H', I.untin ok, q⟩
  | brk => obtain ⟨σ', H', I, q⟩ := h; exact ⟨σ', H', I.untin ok, q⟩
  | cont => obtain ⟨σ', H', I, q⟩ := h; exact ⟨σ', H', I.untin ok, q⟩
  | ret u => obtain ⟨v, σ', H', I, r, q⟩ := h; exact ⟨v, σ', H', I.untin ok, r, q⟩
theorem none_slots {i n : Nat} {v : V} (z : (List.replicate n (none : Option V))[i]? = some (some v)) : False := by
  rw [List.getElem?_replicate] at z
  split at z <;> cases z
theorem Inv.forget (I : Inv X pins σ H s) : Inv X pins (List.replicate X.N.length none) H s := by
  obtain ⟨m, hn, _⟩ := id I.loc
  exact ⟨I.ok, I.os, I.bare, I.base, ⟨m, hn, fun i x v _ z _ => (none_slots z).elim⟩, I.cell, I.free, I.freeC, I.pin, I.hok, by simp⟩
theorem Inv.back {h' : Heap} {t' : Nat} {m' : Str → Option Value} (I : Inv (X.hin ea (X.pn ++ pins)) pins1 σ H s) (ok : X.Ok) (hn : h'.Ns X.env.locals m') (hs : Heap.SameBut X.env.locals s.heap h') :
    Inv X pins (List.replicate X.N.length none) H { s with heap := h', toks := t' } := by
  have neL : ∀ b o, X.s₀.heap.get? b = some o → b ≠ X.env.locals := fun b o e => Nat.ne_of_lt (Nat.lt_of_lt_of_le (Heap.lt_size e) ok.above)
  refine ⟨ok, I.os, I.bare, ⟨fun b o e n hb hx => (hs.2 b (neL b o e)).trans (I.base.keep b o e n hb hx), fun b o e n hb hx => ?_, I.base.free, fun b o e hx => ?_, I.base.tups, I.base.frzs, I.base.tbls⟩,
    ⟨m', hn, fun i x v _ z _ => (none_slots z).elim⟩, fun x c e => ?_, I.free, I.freeC, fun p hp => ?_, fun b u e => ?_, by simp⟩
  · obtain ⟨sl, e1⟩ := I.base.slot b o e n hb hx
    exact ⟨sl, (hs.2 b (neL b o e)).trans e1⟩
  · obtain ⟨o', e1⟩ := I.base.there b o e hx
    exact ⟨o', (hs.2 b (neL b o e)).trans e1⟩
  · obtain ⟨v, o, ho, hd⟩ := I.cell x c e
    exact ⟨v, o, (hs.2 c (I.cne x c e)).trans ho, hd⟩
  · obtain ⟨p1, p2, p3, p4⟩ := I.pin p (List.mem_append_left _ hp)
    exact ⟨(hs.2 p.1 p3).trans p1, p2, p3, p4⟩
  · refine (I.hok b u e).stay (fun c v hc q => (hs.2 c ?_).trans q) (fun _ q => q) fun _ _ q => q
    intro z
    have fr : H X.env.locals = none := I.free
    rcases hc with r | r
    · rw [← r, z, fr] at e; cases e
    · rw [z, fr] at r; cases r
end
def tTry (K : PySem.W.Frag) (n i : Nat) (c : Value) (tb : XK → TS) (th : TS) : TS := fun D σ H => ∃ E : XK, tb E D σ H ∧ ∀ cls dx H', E cls dx H' → ∃ Dc : Addr, cls = .ref Dc ∧ PySem.W.exmOne K (.ref Dc) c = some true ∧
  ∀ ea, H' ea = none → th { nx := fun _ H2 => D.nx (List.replicate n none) H2, rt := D.rt, bk := fun _ H2 => D.bk (List.replicate n none) H2, ct := fun _ H2 => D.ct (List.replicate n none) H2 } ((List.replicate n none).set i (some (.ref ea))) (upd H' ea (excO ea Dc))
section
variable {X : Cx} {body suite : List Stmt} {b₀ : Stmt} {x nm : Str} {np hpos pos : Pos} {i : Nat} {C : Addr} {tb : XK → TS} {th : TS}
theorem ps_try_as {n : Nat} {K : PySem.W.Frag} (hK : X.K = K) (hn : X.N.length = n) (hst : X.stack = X.env :: X.outer) (hfr : X.env.frame = some X.env.locals) (hex : X.ex = []) (hN : X.N.Nodup) (hi : X.N[i]? = some nm) (hlo : X.env.scope.names.lookup nm = some .local) (hg : Gl X x) (hm : X.mg x = some (.ref C))
    (hb : ∀ (W : Value → Shared → Prop) (pn : List (Addr × Obj)) (E : XK), Passes (CXr X.prog X.w) (X.tin W pn) E → PSs (X.tin W pn) body (tb E)) (hh : ∀ (ea : Addr) (pn : List (Addr × Obj)), PSs (X.hin ea pn) (b₀ :: suite) th)
    (hf : X.fn nm = true ∨ X.env.scope.names.lookup nm = some .local := by first | exact .inl rfl | exact .inr rfl) (hdb : (x == ("__debug__" : Str)) = false := by decide) :
    PS X (.Try body [.ExceptHandler (some (.Name x np)) (some nm) (b₀ :: suite) hpos] [] [] pos) (tTry K n i (.ref C) tb th) := by
  subst hK hn
  intro pins s σ H D I h
  obtain ⟨E, h1, h2⟩ := h
  refine wpAny_Try_except ?_
  have go := hb (fun e s₁ => wpAny (model X.prog X.w) X.A (noteFrame e X.env) (fun _ s₂ => wpAny (model X.prog X.w) X.A (setFlight e none) (fun _ s₃ =>
    wpAny (model X.prog X.w) X.A (handleBy e X.env [.ExceptHandler (some (.Name x np)) (some nm) (b₀ :: suite) hpos]) (SP X pins D) X.xe s₃) X.xe s₂) X.xe s₁) (X.pn ++ pins) E ?key
  · refine wpAny_mono (go [] s σ H D (I.tin _) h1) (fun f s1 q => ?_) fun e s1 q => q
    have q' := SP.untin I.ok q
    cases f with
    | next => exact wpAny_execs_nil q'
    | brk => exact q'
    | cont => exact q'
    | ret u => exact q'
  intro pins1 σ1 H1 s1 e s' I1 hx
  obtain ⟨ea, cls, H2, rfl, os, bare, F, hE⟩ := hx
  obtain ⟨Dc, rfl, hm1, hth⟩ := h2 cls none H2 hE
  obtain ⟨B, a0, fl, hokB, old, there⟩ := F.fly
  have hea : H2 ea = none := hokB.free_of fl.2.1
  have fun1 : s1.heap.FunFrames X.base X.stack := I1.stack
  have inv : ∀ h6 : Heap, Heap.FlyingW B X.stack ea (.ref Dc) a0 h6 → s'.heap.UpToSlots h6 → Inv (X.hin ea (X.pn ++ pins)) pins1 (List.replicate X.N.length none) (upd H2 ea (excO ea Dc)) { s' with heap := h6 } := fun h6 f6 up => by
    have st : ∀ b o, s1.heap.get? b = some o → b ∈ frs X.stack → H1 b = none → ∃ sl, h6.get? b = some { o with slots := sl } := fun b o q hb n => by
      obtain ⟨sl, q1⟩ := F.un.slot b o q n hb (by simp)
      obtain ⟨_, o', q', d⟩ := fun1.mem hb
      rw [q] at q'; cases q'
      obtain ⟨sl', q2⟩ := up b _ q1 d
      exact ⟨sl', q2⟩
    have nea : ∀ b o, s1.heap.get? b = some o → b ≠ ea := fun b o q z => by rw [z, F.new] at q; cases q
    refine (Inv.call' (ch := []) (s' := { s' with heap := h6 }) I1.forget os ⟨fun b o q n hb _ => f6.1 b o (old b o q n hb), fun b o q n hb _ => st b o q hb n, fun b o q n _ => ?_, fun b o q _ => ?_, fun b xs q => ?_, fun b o u q => ?_, fun b ps q => ?_⟩ ?_ bare (fun b z => absurd z (by simp))).hin I.ok ea
    · rw [upd_ne (nea b o q)]; exact F.un.free b o q n (by simp)
    · by_cases hb : b ∈ frs X.stack
      · obtain ⟨sl, q1⟩ := st b o q hb (I1.stkFree b hb)
        exact ⟨_, q1⟩
      · obtain ⟨o', q1⟩ := there b o q hb
        exact ⟨o', f6.1 b o' q1⟩
    · have q' := F.un.tups b xs q
      rw [upd_ne (ne_of_none q' hea)]; exact q'
    · have q' := F.un.frzs b o u q
      rw [upd_ne (ne_of_none q' hea)]; exact q'
    · obtain ⟨mo, q'⟩ := F.un.tbls b ps q
      exact ⟨mo, by rw [upd_ne (ne_of_none q' hea)]; exact q'⟩
    · intro b u q
      by_cases hb : b = ea
      · subst hb
        rw [upd_same] at q; cases q
        obtain ⟨_, _, _, oe, vs, T, oT, ts, he, hc, hd, _⟩ := f6
        exact ⟨⟨oe, vs, he, hc.1, hd⟩, ⟨oe, he⟩, fun g1 g2 ⟨o, vs, p1, p2, p3⟩ k => ⟨o, vs, k o p1, p2, p3⟩⟩
      · rw [upd_ne hb] at q
        refine (hokB b u q).stay (fun c v _ r => f6.1 c v r) (fun c r => ?_) fun c xs r => ?_
        · rw [upd_ne (ne_of_none r hea)]; exact r
        · rw [upd_ne (ne_of_none r hea)]; exact r
  rw [hst] at fl inv
  refine wpAny_looks_onW (I.ok.frames.trans (by rw [hst])) hfr fl fun h₄ held₄ sm₄ => ?_
  refine wpAny_landsW held₄ fun h₅ fl₅ sm₅ => ?_
  have up₅ := sm₄.trans sm₅
  have I5 := inv h₅ fl₅ up₅
  refine wpAny_handleBy_cons (codeAny_handlers_test (ld_glob (X := X.hin ea (X.pn ++ pins)) I5 hg hm ?_ hdb)) (by intro q; cases q)
  obtain ⟨ob, hob, hoc⟩ := fl₅.there
  have ty : PySem.W.Looks (model X.prog X.w) h₅ (typeOf (.ref ea)) (.ref Dc) := hoc ▸ (PySem.W.Looks.ld hob).andThen .now
  refine PySem.W.Looks.here (s := { s' with heap := h₅ }) (PySem.W.exm_one (show X.K.In h₅ from I5.kIn) ty hm1) ?_
  refine codeAny_handlers_suite_as (lands_againW fl₅ fun h₆ fl₆ sm₆ => ?_)
  have I6 := inv h₆ fl₆ (up₅.trans sm₆)
  refine store_ok (X := X.hin ea (X.pn ++ pins)) (v := .ref ea) I6 hN hi (.inl hlo) rfl (fun s7 I7 => ?_) hf
  refine wpAny_mono (hh ea _ pins1 s7 _ _ _ I7 (hth ea hea)) (fun f s8 q => ?_) fun _ _ z => z.elim
  have knd : (X.env.scope.kind == .class || (X.env.scope.kind == .module && X.env.locals != X.env.globals)) = false := by rw [I.ok.kind]; rfl
  cases f with
  | next =>
    obtain ⟨σ', H', I8, q⟩ := q
    obtain ⟨m, hn, _⟩ := id I8.loc
    exact wpAny_nameGoes hlo hn knd fun h' m' hn' hs => ⟨_, H', I8.back I.ok hn' hs, q⟩
  | brk =>
    obtain ⟨σ', H', I8, q⟩ := q
    obtain ⟨m, hn, _⟩ := id I8.loc
    exact wpAny_nameGoes hlo hn knd fun h' m' hn' hs => ⟨_, H', I8.back I.ok hn' hs, q⟩
  | cont =>
    obtain ⟨σ', H', I8, q⟩ := q
    obtain ⟨m, hn, _⟩ := id I8.loc
    exact wpAny_nameGoes hlo hn knd fun h' m' hn' hs => ⟨_, H', I8.back I.ok hn' hs, q⟩
  | ret u =>
    obtain ⟨v, σ', H', I8, r, q⟩ := q
    obtain ⟨m, hn, _⟩ := id I8.loc
    exact wpAny_nameGoes hlo hn knd fun h' m' hn' hs => ⟨v, _, H', I8.back I.ok hn' hs, r, q⟩
end
end L2
set_option Elab.async false
set_option linter.all false
set_option maxRecDepth 100000
set_option maxHeartbeats 4000000
namespace L2
open PySem PySem.Spec PyProof.Rows
theorem forIn_steps {α β : Type} (g : α → β → β) {f : α → β → Sem (ForInStep β)} : ∀ {l : List α} (c : β), (∀ x ∈ l, ∀ c, f x c = pure (.yield (g x c))) → forIn l c f = pure (l.foldl (fun c x => g x c) c)
  | [], c, _ => rfl
  | x :: l, c, h => by
    have hx := h x List.mem_cons_self c
    rw [List.forIn_cons, hx, pure_bind]
    exact forIn_steps g (g x c) fun y hy => h y (List.mem_cons_of_mem _ hy)
def addCell (env : Env) (x : Str × NameKind) (c : List (Str × Addr)) : List (Str × Addr) :=
  if x.2 == NameKind.free then (match env.cells.lookup x.1 with | some a => (x.1, a) :: c | none => c) else c
theorem addCells_sub {env : Env} : ∀ (l : List (Str × NameKind)) (acc : List (Str × Addr)), (∀ n c, acc.lookup n = some c → env.cells.lookup n = some c) →
    ∀ n c, (l.foldl (fun c x => addCell env x c) acc).lookup n = some c → env.cells.lookup n = some c
  | [], acc, h, n, c, e => h n c e
  | x :: l, acc, h, n, c, e => by
    refine addCells_sub l (addCell env x acc) (fun n c e => ?_) n c e
    unfold addCell at e
    split at e
    · split at e
      · rename_i a ha
        rw [List.lookup_cons] at e
        split at e
        · rename_i hb
          have hn : n = x.1 := by simpa using hb
          cases e
          rw [hn]; exact ha
        · exact h n c e
      · exact h n c e
    · exact h n c e
theorem addCells_has {env : Env} : ∀ (l : List (Str × NameKind)) (acc : List (Str × Addr)) (n : Str), ((∃ c, acc.lookup n = some c) ∨ ((n, NameKind.free) ∈ l ∧ ∃ c, env.cells.lookup n = some c)) →
    ∃ c, (l.foldl (fun c x => addCell env x c) acc).lookup n = some c
  | [], acc, n, h => by
    rcases h with h | ⟨h, _⟩
    · exact h
    · cases h
  | x :: l, acc, n, h => by
    refine addCells_has l (addCell env x acc) n ?_
    rcases h with ⟨c, h⟩ | ⟨h, c, hc⟩
    · left
      unfold addCell
      split
      · split
        · rw [List.lookup_cons]
          split
          · exact ⟨_, rfl⟩
          · exact ⟨c, h⟩
        · exact ⟨c, h⟩
      · exact ⟨c, h⟩
    · rcases List.mem_cons.mp h with e | h
      · left
        subst e
        unfold addCell
        have ef : (NameKind.free == NameKind.free) = true := rfl
        have en : (n == n) = true := by simp
        simp only [ef, if_true, hc, List.lookup_cons, en]
        exact ⟨c, rfl⟩
      · exact .inr ⟨h, c, hc⟩
theorem closure_of {scope : Scope} {env : Env} (hf : ∀ n, (n, NameKind.free) ∈ scope.names → ∃ c, env.cells.lookup n = some c) :
    ∃ cl, closureFor scope env = pure cl ∧ (∀ n c, cl.lookup n = some c → env.cells.lookup n = some c) ∧ ∀ n, (n, NameKind.free) ∈ scope.names → ∃ c, cl.lookup n = some c := by
  refine ⟨scope.names.foldl (fun c x => addCell env x c) [], ?_, addCells_sub _ _ (fun n c e => by simp at e), fun n h => addCells_has _ _ n (.inr ⟨h, hf n h⟩)⟩
  simp only [closureFor]
  rw [forIn_steps (addCell env) [] (fun x hx c => ?_)]
  · rfl
  · obtain ⟨n, kind⟩ := x
    by_cases hk : kind = .free
    · subst hk
      obtain ⟨a, ha⟩ := hf n hx
      have ef : (NameKind.free == NameKind.free) = true := rfl
      simp [cellOf, ha, addCell, ef]
    · have e : (kind == NameKind.free) = false := by simpa using hk
      simp [e, addCell]
theorem relabel_lookup (env : Env) (x : Str) : ∀ names : List (Str × NameKind),
    (names.map fun (n, k) => if (k == NameKind.free && env.scope.kind == .function && env.kindOf n == some .cell) then (n, NameKind.cell) else (n, k)).lookup x =
    (names.lookup x).map fun k => if (k == NameKind.free && env.scope.kind == .function && env.kindOf x == some .cell) then NameKind.cell else k
  | [] => rfl
  | (n, k) :: r => by
    have ih := relabel_lookup env x r
    rw [List.map_cons]
    by_cases e : x = n
    · subst e
      have ex : (x == x) = true := by simp
      by_cases c : (k == NameKind.free && env.scope.kind == .function && env.kindOf x == some .cell) = true
      · dsimp only
        rw [if_pos c, List.lookup_cons, ex, List.lookup_cons, ex]
        exact congrArg some (if_pos c).symm
      · dsimp only
        rw [if_neg c, List.lookup_cons, ex, List.lookup_cons, ex]
        exact congrArg some (if_neg c).symm
    · have e' : (x == n) = false := by simpa using e
      by_cases c : (k == NameKind.free && env.scope.kind == .function && env.kindOf n == some .cell) = true
      · dsimp only
        rw [if_pos c, List.lookup_cons, e', List.lookup_cons, e']
        exact ih
      · dsimp only
        rw [if_neg c, List.lookup_cons, e', List.lookup_cons, e']
        exact ih
structure CompScope (dsc : Scope) (N : List Str) (scope : Scope) (own : List Str) (ix : List Nat) : Prop where
  kind : scope.kind = .function
  nocell : ∀ y ∈ scope.names, y.2 ≠ NameKind.cell
  names : ∀ y ∈ scope.names, y.2 = NameKind.local → scope.names.lookup y.1 = some .local
  free : ∀ y ∈ scope.names, y.2 = NameKind.free → dsc.names.lookup y.1 = some .cell ∨ dsc.names.lookup y.1 = some .free
  ix : ∀ i ∈ ix, i < N.length ∧ scope.names.lookup (N.getD i "") = some .free
def Cx.comp (X : Cx) (scope : Scope) (own : List Str) (ix : List Nat) (cl : List (Str × Addr)) (C : Addr) (fp : List Addr) (s : Shared) (H : Hp) (xe : Value → Shared → Prop) : Cx :=
  { X with N := own ++ ix.map (fun i => X.N.getD i ""), s₀ := s, H₀ := H, env := compEnvC scope cl C X.env, outer := X.stack, ex := fp, fn := fun _ => false, pn := [], xe := xe }
theorem comp_K {X : Cx} {scope : Scope} {own : List Str} {ix : List Nat} {cl : List (Str × Addr)} {C : Addr} {fp : List Addr} {s : Shared} {H : Hp} {xe : Value → Shared → Prop} : (X.comp scope own ix cl C fp s H xe).K = X.K := rfl
def selC (k : Nat) (ix : List Nat) (σ : St) : St := List.replicate k none ++ ix.map (fun i => (σ[i]?).join)
section
variable {X : Cx} {pins : List (Addr × Obj)} {σ : St} {H H4 : Hp} {s s4 : Shared} {dsc scope : Scope} {own : List Str} {ix : List Nat} {cl : List (Str × Addr)} {C : Addr} {fp : List Addr} {xe : Value → Shared → Prop}
theorem comp_fp (I : Inv X pins σ H s) (hf : ∀ b ∈ fp, FpOk X pins H b) {b : Addr} (hb : b ∈ fp) : b ∉ frs X.stack := fun hs => by
  obtain ⟨_, f1, f2, _⟩ := hf b hb
  rcases List.mem_cons.mp (I.stkSub b hs) with e | e
  · exact f1 e
  · exact f2 e
theorem Inv.comp (I : Inv X pins σ H s) (hd : X.env.scope = dsc) (S : CompScope dsc X.N scope own ix) (cs : ∀ n c, cl.lookup n = some c → X.env.cells.lookup n = some c) (ch : ∀ n, (n, NameKind.free) ∈ scope.names → ∃ c, cl.lookup n = some c)
    (hf : ∀ b ∈ fp, FpOk X pins H b) (ho : ∀ b ∈ fp, ∃ o, s.heap.get? b = some o) (I4 : Inv X pins σ H4 s4) (un : Un (frs X.stack) fp H H4 s.heap s4.heap) (hC : s.heap.objs.size ≤ C) (hn : ∃ m, s4.heap.Ns C m) (hC0 : H4 C = none) :
    Inv (X.comp scope own ix cl C fp s H xe) [] (selC own.length ix σ) H4 s4 := by
  have kfree : ∀ x, scope.names.lookup x = some .free → (compEnvC scope cl C X.env).kindOf x = some .cell ∨ (compEnvC scope cl C X.env).kindOf x = some .free := fun x h => by
    have e : (compEnvC scope cl C X.env).kindOf x = _ := relabel_lookup X.env x scope.names
    rw [e, h, Option.map_some]
    split
    · exact .inl rfl
    · exact .inr rfl
  have kback : ∀ x, ((compEnvC scope cl C X.env).kindOf x = some .cell ∨ (compEnvC scope cl C X.env).kindOf x = some .free) → scope.names.lookup x = some .free := fun x h => by
    have e : (compEnvC scope cl C X.env).kindOf x = _ := relabel_lookup X.env x scope.names
    rw [e] at h
    cases q : scope.names.lookup x with
    | none => rw [q] at h; rcases h with h | h <;> cases h
    | some k =>
      have nc := S.nocell _ (PySem.mem_of_lookup q)
      rw [q, Option.map_some] at h
      cases k <;> first | rfl | exact absurd rfl nc | (rcases h with h | h <;> cases h)
  refine ⟨⟨I.ok.mod, S.kind, I.ok.glob, I.ok.blt, hC, fun x y c h1 h2 => I.ok.inj x y c (cs x c h1) (cs y c h2), fun x hx => ch x (PySem.mem_of_lookup (kback x hx)), fun x c h => (nomatch h), I.ok.hd, I.ok.frames, .inl rfl, fun b hb => ⟨fun z => ?_, fun x c e => (hf b hb).2.2.2.2.1 x c (cs x c e)⟩,
    I.bs, Nat.le_trans I.ok.bsz I.sz, fun b o e hb => ?_, fun b hb => comp_fp I hf hb, I.stack, I.stkFree⟩, I4.os.trans I.os.symm, I4.bare, un, ?_, fun x c e => I4.cell x c (cs x c e), hC0, fun x c e => I4.freeC x c (cs x c e), fun p hp => (nomatch hp), I4.hok, ?_⟩
  · obtain ⟨o, e⟩ := ho b hb
    have z' : b = C := z
    exact absurd (Nat.lt_of_lt_of_le (Heap.lt_size e) (by rw [z']; exact hC)) (Nat.lt_irrefl _)
  · rcases (hf b hb).2.2.2.1 with z | z
    · exact I.ok.noex b o e z
    · exact absurd (Nat.lt_of_lt_of_le (Heap.lt_size e) (Nat.le_trans I.ok.bsz z)) (Nat.lt_irrefl _)
  · obtain ⟨m, hm⟩ := hn
    refine ⟨m, hm, fun i x v e1 e2 _ => ?_⟩
    have e1' : (own ++ ix.map (fun i => X.N.getD i ""))[i]? = some x := e1
    unfold selC at e2
    by_cases hi : i < own.length
    · rw [List.getElem?_append_left (by rw [List.length_replicate]; exact hi), List.getElem?_replicate, if_pos hi] at e2
      cases e2
    · rw [List.getElem?_append_right (by rw [List.length_replicate]; omega), List.length_replicate, List.getElem?_map] at e2
      rw [List.getElem?_append_right (by omega), List.getElem?_map] at e1'
      cases q : ix[i - own.length]? with
      | none => rw [q] at e2; cases e2
      | some j =>
        rw [q] at e1' e2
        rw [Option.map_some, Option.some.injEq] at e1' e2
        obtain ⟨hj, hfr⟩ := S.ix j (List.mem_of_getElem? q)
        rw [e1'] at hfr
        have eN : X.N[j]? = some x := by
          rw [List.getElem?_eq_getElem hj, ← e1', List.getD_eq_getElem?_getD, List.getElem?_eq_getElem hj]; rfl
        have es : σ[j]? = some (some v) := by
          cases w : σ[j]? with
          | none => rw [w] at e2; cases e2
          | some o => rw [w] at e2; exact congrArg some e2
        have kd := S.free _ (PySem.mem_of_lookup hfr) rfl
        rw [← hd] at kd
        obtain ⟨m4, hm4, hl⟩ := I4.loc
        obtain ⟨u, r, l⟩ := hl j x v eN es (.inr kd)
        refine ⟨u, r, .inr ⟨kfree x hfr, ?_⟩⟩
        rcases l with ⟨k, _⟩ | ⟨_, c, ec, cell⟩
        · have k' : X.env.scope.names.lookup x = some .local := k
          rcases kd with z | z <;> (rw [k'] at z; cases z)
        · obtain ⟨c', ec'⟩ := ch x (PySem.mem_of_lookup hfr)
          have z := cs x c' ec'
          rw [ec] at z
          cases z
          exact ⟨c, ec', cell⟩
  · show (selC own.length ix σ).length = (own ++ ix.map (fun i => X.N.getD i "")).length
    unfold selC
    rw [List.length_append, List.length_append, List.length_replicate, List.length_map, List.length_map]
theorem Inv.outOf {pins' : List (Addr × Obj)} {σ' : St} {H' : Hp} {s' : Shared} (I : Inv X pins σ H s) (hf : ∀ b ∈ fp, FpOk X pins H b) (J : Inv (X.comp scope own ix cl C fp s H xe) pins' σ' H' s') : Inv X pins σ H' s' :=
  I.call' J.os J.base J.hok J.bare fun b hb => by
    obtain ⟨_, f1, _, f3, f4, f5⟩ := hf b hb
    exact ⟨f3, f1, f4, f5⟩
end
abbrev testsOf (ifs : List Expr) (env : Env) : Sem Bool := forIn ifs true fun c r => if r = true then do let ok ← isTrue c env (eval c env); pure (ForInStep.yield ok) else pure (ForInStep.yield r)
def PIf (X : Cx) (ifs : List Expr) (t : TT) : Prop :=
  ∀ (pins : List (Addr × Obj)) (s : Shared) (σ : St) (H : Hp) (Q : Bool → Hp → Prop), Inv X pins σ H s → t σ H Q → wpAny (model X.prog X.w) X.A (testsOf ifs X.env) (TP X pins σ Q) X.xe s
def tYes : TT := fun _ H Q => Q true H
theorem pif_nil {X : Cx} : PIf X [] tYes := fun _ _ _ H _ I h => wpAny_tests_nil ⟨H, I, h⟩
theorem pif_one {X : Cx} {c : Expr} {t : TT} (h : PT X c t) : PIf X [c] t := fun pins s σ H Q I q => wpAny_tests_one (h pins s σ H Q I q)
section
variable {prog : Program} {w : World} {A : Around} {R : Result → Shared → Prop} {s : Shared}
abbrev nb (prog : Program) (w : World) (A : Around) (env : Env) (R : Result → Shared → Prop) : Value → Shared → Prop := notedBy (model prog w) A env fun e s' => R (.error e) s'
theorem comp_loop {elt target iter : Expr} {ifs : List Expr} {scope : Scope} {pos : Pos} {it acc : Value} {env : Env} (I : Nat → Shared → Prop)
    (turn : ∀ n s, I n s → wpAny (model prog w) A (pyNext it) (fun r s₁ => (r = none ∧ R (.ok .next) s₁) ∨ ∃ v, r = some v ∧
      wpAny (model prog w) A (letOwnedTupleGo target it v) (fun _ s₂ => wpAny (model prog w) A (assign target env v) (fun _ s₃ => wpAny (model prog w) A (testsOf ifs env) (fun ok s₄ =>
        if ok = true then wpAny (model prog w) A (eval elt env) (fun x s₅ => wpAny (model prog w) A (call (.builtin "list.append") [acc, x]) (fun _ s₆ => ∃ m, m < n ∧ I m s₆) (nb prog w A env R) s₅) (nb prog w A env R) s₄
        else ∃ m, m < n ∧ I m s₄) (nb prog w A env R) s₃) (nb prog w A env R) s₂) (nb prog w A env R) s₁) (nb prog w A env R) s)
    (n : Nat) (h : I n s) : codeAny (model prog w) A (.compLoop (.ListComp elt [⟨target, iter, ifs, 0⟩] scope pos) 0 it acc env) R s := by
  refine codeAny_loop rfl I (fun n s hI => ?_) n h
  refine wpAny_noted ?_
  have e := compTurn_list elt target iter ifs scope pos it acc env
  show wpAny (model prog w) A (compTurn (.ListComp elt [⟨target, iter, ifs, 0⟩] scope pos) 0 it acc env) _ _ s
  rw [e]
  refine wpAny_bind (wpAny_standAt (wpAny_bind (thn (turn n s hI) fun r s₁ h₁ => ?_)))
  rcases h₁ with ⟨rfl, h₁⟩ | ⟨v, rfl, h₁⟩
  · exact wpAny_pure h₁
  · refine wpAny_bind (thn h₁ fun _ s₂ h₂ => wpAny_bind (thn h₂ fun _ s₃ h₃ => wpAny_bind (thn h₃ fun ok s₄ h₄ => ?_)))
    cases ok with
    | false => exact wpAny_pure ⟨rfl, h₄⟩
    | true =>
      refine wpAny_bind (wpAny_bind (thn h₄ fun x s₅ h₅ => wpAny_bind (thn h₅ fun _ s₆ h₆ => ?_)))
      exact wpAny_pure (wpAny_pure ⟨rfl, h₆⟩)
end
def tComp (k : Nat) (ix : List Nat) (wi : TI) (g : TG) (ti : TT) (te : TE) : TE := fun σ H Q => wi σ H fun J H1 => ∀ D, H1 D = none → ∃ W : Nat → Nat → Hp → Prop, (∃ m, W 0 m (upd H1 D (.lst []))) ∧ ∀ i m H2, W i m H2 →
  (J.stop i H2 ∧ Q (.ref D) H2) ∨ (J.go i H2 ∧ ∀ x H3, J.yld i H2 x H3 → g x (selC k ix σ) H3 fun σ4 H4 => ti σ4 H4 fun b H5 => if b = true then te σ4 H5 fun y H6 => ∃ ys, H6 D = some (.lst ys) ∧ ys.length < sizeLine ∧ ∃ m', m' < m ∧ W (i + 1) m' (upd H6 D (.lst (ys ++ [y])))
    else ∃ m', m' < m ∧ W (i + 1) m' H5)
section
variable {X : Cx} {pins : List (Addr × Obj)} {σ : St} {H : Hp} {s : Shared} {dsc scope : Scope} {own : List Str} {ix : List Nat} {elt tg iter : Expr} {ifs : List Expr} {pos : Pos} {wi : TI} {g : TG} {ti : TT} {te : TE}
def CompBody (X : Cx) (scope : Scope) (own : List Str) (ix : List Nat) (tg : Expr) (ifs : List Expr) (elt : Expr) (g : TG) (ti : TT) (te : TE) : Prop :=
  ∀ cl C fp s H xe, PG (X.comp scope own ix cl C fp s H xe) tg g ∧ PIf (X.comp scope own ix cl C fp s H xe) ifs ti ∧ PE (X.comp scope own ix cl C fp s H xe) elt te
theorem comp_run {use : Option (Value → Sem Unit)} {RQ : Value → Shared → Prop} {Q : VK} {p0 : Pos} (hc : X.calm = true) (hd : X.env.scope = dsc) (S : CompScope dsc X.N scope own ix) (hi : PI X tg iter wi) (hb : CompBody X scope own ix tg ifs elt g ti te)
    (hs : ∀ x, foldedSetIterable iter X.env x = pure x) (I : Inv X pins σ H s) (h : tComp own.length ix wi g ti te σ H Q)
    (fin : ∀ D C H' s', Inv X pins σ H' s' → FpOk X pins H' C → (∃ m, s'.heap.Ns C m) → Q (.ref D) H' → compPost (model X.prog X.w) X.A X.xe use RQ (.ref D) C (.ok .next) s') :
    wpAny (model X.prog X.w) X.A (comprehension (.ListComp elt [⟨tg, iter, ifs, 0⟩] scope pos) scope X.env p0 (newList []) false (eval iter X.env) use) RQ X.xe s := by
  obtain ⟨cl, hcl, cs, ch⟩ := closure_of (scope := scope) (env := X.env) fun n hn => I.ok.has n (by
    have z := S.free _ hn rfl
    rw [← hd] at z
    exact z)
  refine wpAny_comprehension_free rfl hs hcl S.kind S.names (thn (hi pins s σ H _ I h) fun v s1 h1 => thn h1 fun itv s2 h2 => ?_)
  obtain ⟨it, fp, tn, J, H2, e, I2, T, st2, f2, W⟩ := h2
  subst e
  have hD0 : H2 s2.heap.objs.size = none := I2.fresh
  obtain ⟨W, ⟨m0, w0⟩, turn⟩ := W _ hD0
  have I3 := I2.lnew (ys := []) (its := []) (t' := s2.toks) .nil (Nat.zero_le _)
  refine wpAny_newObj_type (wpAny_newFunctionEnv S.nocell (by intro y hy; cases hy) (fun h₁ hns₁ hsb₁ => ?_) S.kind)
  dsimp only at hns₁ hsb₁ ⊢
  generalize hH3 : s2.heap.push { cls := .type "list", dict := none, data := .seq ([] : List Value).toArray } = g3 at hns₁ hsb₁ ⊢
  have hC : g3.objs.size = s2.heap.objs.size + 1 := by rw [← hH3, Heap.size_push]
  have old3 : ∀ b o, g3.get? b = some o → h₁.get? b = some o := fun b o e => hsb₁.extBut b o (Nat.ne_of_lt (Heap.lt_size e)) (Heap.get?_push_of_some _ e)
  have old : ∀ b o, s2.heap.get? b = some o → h₁.get? b = some o := fun b o e => old3 b o (by rw [← hH3]; exact Heap.get?_push_of_some _ e)
  have I4 : Inv X pins σ (upd H2 s2.heap.objs.size (.lst [])) { s2 with heap := h₁, toks := s2.toks + 0 } := I3.kept (t' := s2.toks + 0) fun b o e => old3 b o (by rw [← hH3]; exact e)
  have fpo : ∀ b ∈ fp, ∃ o, s2.heap.get? b = some o := fun b hb => let ⟨o, e, _⟩ := T.obj _ _ st2 b hb; ⟨o, e⟩
  have hC0 : upd H2 s2.heap.objs.size (.lst []) g3.objs.size = none := by
    rw [upd_ne (by rw [hC]; exact Nat.succ_ne_self _)]
    exact I2.hok.fresh (by rw [hC]; exact Nat.le_succ _)
  have hCs : s2.heap.objs.size ≤ g3.objs.size := by rw [hC]; exact Nat.le_succ _
  -- the block's context, and how one comes into it again
  have into : ∀ {H' : Hp} {s' : Shared} {xe : Value → Shared → Prop}, Inv X pins σ H' s' → Un (frs X.stack) fp H2 H' s2.heap s'.heap → (∃ m, s'.heap.Ns g3.objs.size m) → H' g3.objs.size = none → Inv (X.comp scope own ix cl g3.objs.size fp s2 H2 xe) [] (selC own.length ix σ) H' s' :=
    fun I' un hn h0 => I2.comp hd S cs ch f2 fpo I' un hCs hn h0
  have stat : ∀ {H' : Hp} {xe : Value → Shared → Prop} {σ' : St} {s' : Shared}, Inv (X.comp scope own ix cl g3.objs.size fp s2 H2 xe) [] σ' H' s' → (∀ b ∈ fp, H' b = none) → ∀ b ∈ fp, FpOk (X.comp scope own ix cl g3.objs.size fp s2 H2 xe) [] H' b := fun {H' xe σ' s'} K hn b hb =>
    ⟨hn b hb, (K.ok.exf b hb).1, K.ok.exfs b hb, .inl hb, (K.ok.exf b hb).2, fun p hp => nomatch hp⟩
  have loop : ∀ s₃ : Shared, s₃ = { s2 with heap := h₁, toks := s2.toks + 0 } →
      codeAny (model X.prog X.w) X.A (.compLoop (.ListComp elt [⟨tg, iter, ifs, 0⟩] scope pos) 0 (.ref it) (.ref s2.heap.objs.size) (compEnvC scope cl g3.objs.size X.env)) (compPost (model X.prog X.w) X.A X.xe use RQ (.ref s2.heap.objs.size) g3.objs.size) s₃ := by
    rintro s₃ rfl
    generalize hxe : nb X.prog X.w X.A (compEnvC scope cl g3.objs.size X.env) (compPost (model X.prog X.w) X.A X.xe use RQ (.ref s2.heap.objs.size) g3.objs.size) = xe
    obtain ⟨hg, hif, hel⟩ := hb cl g3.objs.size fp s2 H2 xe
    refine comp_loop (fun n s' => ∃ i H', Inv (X.comp scope own ix cl g3.objs.size fp s2 H2 xe) [] (selC own.length ix σ) H' s' ∧ tn i s'.heap ∧ (∀ b ∈ fp, H' b = none) ∧ W i n H') ?_ m0
      ⟨0, _, into I4 (Un.laid old (Nat.le_refl _) hD0) ⟨_, hns₁⟩ hC0, T.keep _ _ _ st2 fun b hb o e => old b o e, fun b hb => ?_, w0⟩
    · rintro n s3 ⟨i, H3, K3, st3, fr3, w3⟩
      rw [hxe]
      rcases turn i n H3 w3 with ⟨stop, qn⟩ | ⟨go, step⟩
      · refine thn (T.done (X.comp scope own ix cl g3.objs.size fp s2 H2 xe) rfl rfl rfl hc i [] s3 _ H3 xe K3 (stat K3 fr3) st3 stop) fun r s4 ⟨hr, K4⟩ => .inl ⟨hr, ?_⟩
        obtain ⟨m, hm, _⟩ := K4.loc
        exact fin _ _ H3 s4 (I2.outOf f2 K4) (I2.fpOk hCs K4.free) ⟨m, hm⟩ qn
      · refine thn (T.item (X.comp scope own ix cl g3.objs.size fp s2 H2 xe) rfl rfl rfl hc i [] s3 _ H3 xe K3 (stat K3 fr3) st3 go) fun r s4 ⟨u, hr, h4⟩ => .inr ⟨u, hr, ?_⟩
        refine thn h4 fun _ s5 ⟨x, H5, K5, r5, y5, st5, fr5⟩ => ?_
        have K5' := K5.pinned (stat K5 fr5) (T.obj _ _ st5)
        refine thn (hg _ s5 _ H5 x u _ K5' r5 (step x H5 y5)) fun _ s6 ⟨σ6, H6, K6, q6⟩ => ?_
        refine thn (hif _ s6 σ6 H6 _ K6 q6) fun b s7 ⟨H7, K7, q7⟩ => ?_
        have again : ∀ {σ8 : St} {H8 : Hp} {s8 : Shared}, Inv (X.comp scope own ix cl g3.objs.size fp s2 H2 xe) ([] ++ pinsAt fp s5.heap) σ8 H8 s8 → (∃ m', m' < n ∧ W (i + 1) m' H8) → ∃ m, m < n ∧ ∃ i H', Inv (X.comp scope own ix cl g3.objs.size fp s2 H2 xe) [] (selC own.length ix σ) H' s8 ∧ tn i s8.heap ∧ (∀ b ∈ fp, H' b = none) ∧ W i m H' := fun {σ8 H8 s8} K8 ⟨m', hm, w8⟩ => by
          obtain ⟨m, hm8, _⟩ := K8.loc
          refine ⟨m', hm, i + 1, H8, into (I2.outOf f2 K8) K8.base ⟨m, hm8⟩ K8.free, T.keep _ _ _ st5 fun b hb o e => (K8.pin (b, o) (List.mem_append_right _ (List.mem_append_right _ (mem_pinsAt hb e)))).1, fun b hb => ?_, w8⟩
          obtain ⟨o, e, d⟩ := T.obj _ _ st5 b hb
          exact (K8.pin (b, o) (List.mem_append_right _ (List.mem_append_right _ (mem_pinsAt hb e)))).2.1
        cases b with
        | false => exact again K7 q7
        | true =>
          refine thn (hel _ s7 σ6 H7 _ K7 q7) fun v s8 ⟨y, H8, K8, r8, ys, e8, z8, q8⟩ => ?_
          refine thn (mt_append (X := X.comp scope own ix cl g3.objs.size fp s2 H2 xe) _ s8 σ6 H8 (.ref s2.heap.objs.size) [y] (.ref s2.heap.objs.size) [v] (fun _ H' => ∃ m', m' < n ∧ W (i + 1) m' H') K8 rfl (.cons r8 .nil) ⟨_, ys, y, rfl, rfl, e8, z8, q8⟩) ?_
          rintro u9 s9 ⟨v9, H9, K9, r9, q9⟩
          exact again K9 q9
    · have z := (f2 b hb).1
      obtain ⟨o, e⟩ := fpo b hb
      rw [upd_ne (Nat.ne_of_lt (Heap.lt_size e))]
      exact z
  exact codeAny_compStart_list (loop _ rfl) (T.self _ 0 _ _ _ (T.keep _ _ _ st2 fun b hb o e => old b o e) (loop _ rfl))
theorem pe_comp {N : List Str} (hc : X.calm = true) (hd : X.env.scope = dsc) (hN : X.N = N) (S' : CompScope dsc N scope own ix) (hi : PI X tg iter wi) (hb : CompBody X scope own ix tg ifs elt g ti te)
    (hs : ∀ x, foldedSetIterable iter X.env x = pure x := by intro _; rfl) : PE X (.ListComp elt [⟨tg, iter, ifs, 0⟩] scope pos) (tComp own.length ix wi g ti te) := by
  have S : CompScope dsc X.N scope own ix := by rw [hN]; exact S'
  intro pins s σ H Q I h
  rw [eval_ListComp]
  refine comp_run (use := none) hc hd S hi hb hs I h fun D C H' s' I' f' hn q => ?_
  obtain ⟨m, hm⟩ := hn
  obtain ⟨f0, f1, f2, f3, f4, f5⟩ := f'
  exact ⟨m, hm, fun h' sb => ⟨.ref D, H', I'.turned (t' := s'.toks) (fun b o hb e => (sb.2 b hb).trans e) f0 f1 f3 f4 f5, rfl, q⟩⟩
theorem ps_setC {i : Nat} {x : Str} {N : List Str} {pos' pos1 : Pos} (hN : X.N.Nodup) (hx0 : X.N[i]? = some x) (hx : Loc X.env.scope x) (hc : X.calm = true) (hd : X.env.scope = dsc) (hN' : X.N = N) (S' : CompScope dsc N scope own ix) (hi : PI X tg iter wi) (hb : CompBody X scope own ix tg ifs elt g ti te)
    (hsw : swapsWith (.ListComp elt [⟨tg, iter, ifs, 0⟩] scope pos) (some (.Name x pos')) pos1.line X.env = pure true := by rfl) (hf : X.fn x = true ∨ X.env.scope.names.lookup x = some .local := by first | exact .inl rfl | exact .inr rfl | assumption)
    (hs : ∀ x, foldedSetIterable iter X.env x = pure x := by intro _; rfl) : PS X (.Assign [.Name x pos'] (.ListComp elt [⟨tg, iter, ifs, 0⟩] scope pos) pos1) (tAsg (tComp own.length ix wi g ti te) (gName i)) := by
  have S : CompScope dsc X.N scope own ix := by rw [hN']; exact S'
  intro pins s σ H D I h
  rw [exec_Assign_Name_used _ _ _ _ hsw]
  have main := comp_run (p0 := iter.pos) (pos := pos) (use := some (assign (.Name x pos') X.env)) (RQ := fun _ s' => SP X pins D .next s') hc hd S hi hb hs I h fun l C H' s' I' f' hn q => by
    obtain ⟨m, o, es, ep, ho, hdt, hr⟩ := hn
    obtain ⟨f0, f1, f2, f3, f4, f5⟩ := f'
    have Ip : Inv X (pins ++ [(C, o)]) σ H' s' := I'.pins_of fun p hp => (List.mem_append.mp hp).elim (fun z => I'.pin p (List.mem_append_right _ z)) fun z => by
      have e : p = (C, o) := by simpa using z
      subst e
      exact ⟨ho, f0, f1, f2, fun v z => by rw [hdt] at z; cases z⟩
    refine wpAny_assign_Name (store_ok (v := .ref l) Ip hN hx0 hx rfl (fun s2 I2 => ?_) hf)
    have pc := I2.pin (C, o) (List.mem_append_right _ (List.mem_append_right _ (by simp)))
    refine ⟨m, ⟨o, es, ep, pc.1, hdt, hr⟩, fun h' sb => ⟨_, H', I2.unpinned.turned (t' := s2.toks) (fun b o hb e => (sb.2 b hb).trans e) pc.2.1 f1 f3 f4 f5, q⟩⟩
  refine wpAny_bind (wpAny_standAt (wpAny_bind ?_))
  exact wpAny_bind (thn main fun _ s' hq => wpAny_pure (wpAny_pure hq))
end
def CW (n : Nat) (Pv : Nat → List V → Hp → Prop) : Nat → Nat → Hp → Prop := fun i m H => m = n - i ∧ i ≤ n ∧ ∃ ys, Pv i ys H
abbrev CPut (n : Nat) (Pv : Nat → List V → Hp → Prop) (D : Addr) (i : Nat) (y : V) (H : Hp) : Prop := ∃ ys, H D = some (.lst ys) ∧ ys.length < sizeLine ∧ ∃ m', m' < n - i ∧ CW n Pv (i + 1) m' (upd H D (.lst (ys ++ [y])))
abbrev CSkip (n : Nat) (Pv : Nat → List V → Hp → Prop) (i : Nat) (H : Hp) : Prop := ∃ m', m' < n - i ∧ CW n Pv (i + 1) m' H
theorem cw_put {n i : Nat} {Pv : Nat → List V → Hp → Prop} {D : Addr} {y : V} {ys : List V} {H : Hp} (hi : i < n) (hD : H D = some (.lst ys)) (hz : ys.length < sizeLine) (p : Pv (i + 1) (ys ++ [y]) (upd H D (.lst (ys ++ [y])))) : CPut n Pv D i y H :=
  ⟨ys, hD, hz, n - (i + 1), by omega, rfl, hi, _, p⟩
theorem cw_skip {n i : Nat} {Pv : Nat → List V → Hp → Prop} {ys : List V} {H : Hp} (hi : i < n) (p : Pv (i + 1) ys H) : CSkip n Pv i H := ⟨n - (i + 1), by omega, rfl, hi, _, p⟩
def CompW (J : It) (D : Addr) (g : TG) (ti : TT) (te : TE) (σ' : St) (H : Hp) (Q : VK) : Prop :=
  ∃ W : Nat → Nat → Hp → Prop, (∃ m, W 0 m (upd H D (.lst []))) ∧ ∀ i m H2, W i m H2 →
    (J.stop i H2 ∧ Q (.ref D) H2) ∨ (J.go i H2 ∧ ∀ x H3, J.yld i H2 x H3 → g x σ' H3 fun σ4 H4 => ti σ4 H4 fun b H5 => if b = true then te σ4 H5 fun y H6 => ∃ ys, H6 D = some (.lst ys) ∧ ys.length < sizeLine ∧ ∃ m', m' < m ∧ W (i + 1) m' (upd H6 D (.lst (ys ++ [y])))
      else ∃ m', m' < m ∧ W (i + 1) m' H5)
theorem tComp_mk {k : Nat} {ix : List Nat} {wi : TI} {g : TG} {ti : TT} {te : TE} {σ : St} {H : Hp} {Q : VK} (h : wi σ H fun J H1 => ∀ D, H1 D = none → CompW J D g ti te (selC k ix σ) H1 Q) : tComp k ix wi g ti te σ H Q := h
theorem comp_by {J : It} {D : Addr} {g : TG} {ti : TT} {te : TE} {σ' : St} {H : Hp} {Q : VK} (n : Nat) (Pv : Nat → List V → Hp → Prop) (h0 : Pv 0 [] (upd H D (.lst []))) (hgo : ∀ i ys H, i < n → Pv i ys H → J.go i H) (hst : ∀ ys H, Pv n ys H → J.stop n H)
    (hs : ∀ i ys H x H3, i < n → Pv i ys H → J.yld i H x H3 → g x σ' H3 fun σ4 H4 => ti σ4 H4 fun b H5 => if b = true then te σ4 H5 fun y H6 => CPut n Pv D i y H6 else CSkip n Pv i H5)
    (hd : ∀ ys H, Pv n ys H → Q (.ref D) H) : CompW J D g ti te σ' H Q := by
  refine ⟨CW n Pv, ⟨n, rfl, Nat.zero_le _, [], h0⟩, ?_⟩
  rintro i m H2 ⟨rfl, hi, ys, p⟩
  by_cases hlt : i < n
  · exact .inr ⟨hgo i ys H2 hlt p, fun x H3 y => hs i ys H2 x H3 hlt p y⟩
  · have e : i = n := by omega
    subst e
    exact .inl ⟨hst ys H2 p, hd ys H2 p⟩
theorem comp_list {K : PySem.W.Frag} {a D : Addr} {xs : List V} {g : TG} {ti : TT} {te : TE} {σ' : St} {H : Hp} {Q : VK} (Pv : Nat → List V → Hp → Prop) (h0 : Pv 0 [] (upd H D (.lst []))) (hl : ∀ i ys H, Pv i ys H → SqL K H a xs)
    (hs : ∀ i ys H x, i < xs.length → xs[i]? = some x → Pv i ys H → g x σ' H fun σ4 H4 => ti σ4 H4 fun b H5 => if b = true then te σ4 H5 fun y H6 => CPut xs.length Pv D i y H6 else CSkip xs.length Pv i H5)
    (hd : ∀ ys H, Pv xs.length ys H → Q (.ref D) H) : CompW (Itl K a) D g ti te σ' H Q := by
  refine comp_by xs.length Pv h0 (fun i ys H hi p => ⟨xs, xs[i], hl i ys H p, by simp [hi]⟩) (fun ys H p => ⟨xs, hl _ ys H p, Nat.le_refl _⟩) (fun i ys H x H3 hi p y => ?_) hd
  obtain ⟨e, y⟩ := y
  subst e
  exact hs i ys _ x hi (y xs (hl i ys _ p)) p
theorem comp_tup {K : PySem.W.Frag} {a D : Addr} {xs : List V} {g : TG} {ti : TT} {te : TE} {σ' : St} {H : Hp} {Q : VK} (Pv : Nat → List V → Hp → Prop) (h0 : Pv 0 [] (upd H D (.lst []))) (hl : ∀ i ys H, Pv i ys H → SqT K H a xs)
    (hs : ∀ i ys H x, i < xs.length → xs[i]? = some x → Pv i ys H → g x σ' H fun σ4 H4 => ti σ4 H4 fun b H5 => if b = true then te σ4 H5 fun y H6 => CPut xs.length Pv D i y H6 else CSkip xs.length Pv i H5)
    (hd : ∀ ys H, Pv xs.length ys H → Q (.ref D) H) : CompW (Itt K a) D g ti te σ' H Q := by
  refine comp_by xs.length Pv h0 (fun i ys H hi p => ⟨xs, xs[i], hl i ys H p, by simp [hi]⟩) (fun ys H p => ⟨xs, hl _ ys H p, Nat.le_refl _⟩) (fun i ys H x H3 hi p y => ?_) hd
  obtain ⟨e, y⟩ := y
  subst e
  exact hs i ys _ x hi (y xs (hl i ys _ p)) p
theorem comp_range {D : Addr} {lo : Int} {n : Nat} {g : TG} {ti : TT} {te : TE} {σ' : St} {H : Hp} {Q : VK} (Pv : Nat → List V → Hp → Prop) (h0 : Pv 0 [] (upd H D (.lst [])))
    (hs : ∀ i ys H, i < n → Pv i ys H → g (.int (lo + i)) σ' H fun σ4 H4 => ti σ4 H4 fun b H5 => if b = true then te σ4 H5 fun y H6 => CPut n Pv D i y H6 else CSkip n Pv i H5)
    (hd : ∀ ys H, Pv n ys H → Q (.ref D) H) : CompW (Itr lo n) D g ti te σ' H Q := by
  refine comp_by n Pv h0 (fun i ys H hi p => hi) (fun ys H p => Nat.le_refl _) (fun i ys H x H3 hi p y => ?_) hd
  obtain ⟨e, y⟩ := y
  subst e y
  exact hs i ys _ hi p
end L2
set_option Elab.async false
set_option linter.all false
set_option maxRecDepth 100000
set_option maxHeartbeats 4000000
namespace L2
open PySem PySem.Spec PyProof.Rows
mutual
def RdD (K : PySem.W.Frag) (H : Hp) : PyData → V → Prop
  | .none, v => v = .non
  | .bool b, v => v = .bl b
  | .int i, v => v = .int i
  | .str x, v => v = .str x
  | .list ds, v => ∃ p xs, v = .ref p ∧ SqL K H p xs ∧ RdDs K H ds xs
  | .tuple ds, v => ∃ p xs, v = .ref p ∧ SqT K H p xs ∧ RdDs K H ds xs
  | .dict _, _ => False
def RdDs (K : PySem.W.Frag) (H : Hp) : List PyData → List V → Prop
  | [], xs => xs = []
  | d :: ds, xs => ∃ x r, xs = x :: r ∧ RdD K H d x ∧ RdDs K H ds r
end
section
variable {X : Cx} {pins : List (Addr × Obj)} {σ : St} {H : Hp} {s : Shared}
mutual
theorem reads_of (I : Inv X pins σ H s) : ∀ (d : PyData) (v : V) (u : Value), RdD X.K H d v → RelV v u → ∃ as, Reads s.heap u d as
  | .none, v, u, h, r => by
    rw [RdD] at h; subst h; cases r; exact ⟨_, .none⟩
  | .bool b, v, u, h, r => by
    rw [RdD] at h; subst h; cases r; exact ⟨_, .bool b⟩
  | .int i, v, u, h, r => by
    rw [RdD] at h; subst h; obtain ⟨t, rfl⟩ := r; exact ⟨_, .int i t⟩
  | .str x, v, u, h, r => by
    rw [RdD] at h; subst h; obtain ⟨t, rfl⟩ := r; exact ⟨_, .str x t⟩
  | .list ds, v, u, h, r => by
    rw [RdD] at h
    obtain ⟨p, xs, rfl, hq, hs⟩ := h
    cases r
    obtain ⟨its, rv, pl, hz⟩ := I.list hq
    obtain ⟨o, ho, hc, n, hd⟩ := pl.isList
    obtain ⟨as, ra⟩ := reads_ofs I ds xs its hs rv
    exact ⟨_, reads_list_at ho hc hd (by simpa using ra)⟩
  | .tuple ds, v, u, h, r => by
    rw [RdD] at h
    obtain ⟨p, xs, rfl, hq, hs⟩ := h
    cases r
    obtain ⟨its, rv, pl, hz⟩ := I.tuple hq
    obtain ⟨o, ho, hc, n, hd⟩ := pl
    obtain ⟨as, ra⟩ := reads_ofs I ds xs its hs rv
    exact ⟨_, reads_tuple_at ho hc hd (by simpa using ra)⟩
  | .dict kvs, v, u, h, r => by
    rw [RdD] at h; exact h.elim
theorem reads_ofs (I : Inv X pins σ H s) : ∀ (ds : List PyData) (xs : List V) (us : List Value), RdDs X.K H ds xs → Vals xs us → ∃ as, ReadsAll s.heap us ds as
  | [], xs, us, h, r => by
    rw [RdDs] at h; subst h; cases r; exact ⟨_, .nil⟩
  | d :: ds, xs, us, h, r => by
    rw [RdDs] at h
    obtain ⟨x, xr, rfl, hx, hr⟩ := h
    cases r with
    | cons r1 r2 =>
      obtain ⟨as, ra⟩ := reads_of I d _ _ hx r1
      obtain ⟨bs, rb⟩ := reads_ofs I ds _ _ hr r2
      exact ⟨_, .cons ra rb⟩
end
end
def rEqD (K : PySem.W.Frag) : R2 := fun x y H Q => ∃ d e, RdD K H d x ∧ RdD K H e y ∧ SeqAt.shaped d = true ∧ SeqAt.shaped e = true ∧ Q (.bl (PyData.eqv d e)) H
def rNeD (K : PySem.W.Frag) : R2 := fun x y H Q => ∃ d e, RdD K H d x ∧ RdD K H e y ∧ SeqAt.shaped d = true ∧ SeqAt.shaped e = true ∧ Q (.bl (!PyData.eqv d e)) H
theorem hu64 {A : Around} {k : Nat} (hr : Room k A) : A.units + 64 < cLine := by have := hr.un; omega
section
variable {X : Cx}
theorem op_eqD (hu : X.A.units + 64 < cLine) : OpR X (compareOp .Eq) (rEqD X.K) := by
  intro pins s σ H x y v u Q I rx ry h
  obtain ⟨d, e, hd, he, sd, se, q⟩ := h
  obtain ⟨as, ra⟩ := reads_of I d x v hd rx
  obtain ⟨bs, rb⟩ := reads_of I e y u he ry
  exact eq_dataH ra rb sd se hu ⟨.bl (PyData.eqv d e), H, I, rfl, q⟩
theorem op_neD (hu : X.A.units + 64 < cLine) : OpR X (compareOp .NotEq) (rNeD X.K) := by
  intro pins s σ H x y v u Q I rx ry h
  obtain ⟨d, e, hd, he, sd, se, q⟩ := h
  obtain ⟨as, ra⟩ := reads_of I d x v hd rx
  obtain ⟨bs, rb⟩ := reads_of I e y u he ry
  exact ne_dataH ra rb sd se hu ⟨.bl (!PyData.eqv d e), H, I, rfl, q⟩
theorem op_sub_bb : OpR X (binaryOp .Sub) (fun x y H Q => ∃ i k, x = .bl i ∧ y = .bl k ∧ Q (.int (b2i i - b2i k)) H) := by
  intro pins s σ H x y v u Q I rx ry h
  obtain ⟨i, k, rfl, rfl, q⟩ := h
  cases rx
  cases ry
  exact sub_bool ⟨.int (b2i i - b2i k), H, I.tok _, ⟨_, rfl⟩, q⟩
theorem op_is_bl : OpR X (compareOp .Is) (fun x y H Q => ∃ i k, x = .bl i ∧ y = .bl k ∧ Q (.bl (i == k)) H) := by
  intro pins s σ H x y v u Q I rx ry h
  obtain ⟨i, k, rfl, rfl, q⟩ := h
  cases rx
  cases ry
  exact is_bool ⟨.bl (i == k), H, I, rfl, q⟩
end
def dPt (x y w : Int) : PyData := .tuple [.int x, .int y, .int w]
theorem rd_pt {K : PySem.W.Frag} {H : Hp} {p : Addr} {x y w : Int} (h : SqT K H p [.int x, .int y, .int w]) : RdD K H (dPt x y w) (.ref p) := by
  unfold dPt
  rw [RdD]
  exact ⟨p, _, rfl, h, by simp [RdDs, RdD]⟩
theorem dPt_shaped (x y w : Int) : SeqAt.shaped (dPt x y w) = true := by
  simp [dPt, SeqAt.shaped, PyData.canLay0, PyData.canLayAll0, PyData.depth, PyData.depthAll]
theorem dPt_eqv (x y w x' y' w' : Int) : PyData.eqv (dPt x y w) (dPt x' y' w') = decide (x = x' ∧ y = y' ∧ w = w') := by
  simp only [dPt, PyData.eqv, PyData.eqvAll, Bool.and_true]
  by_cases h1 : x = x' <;> by_cases h2 : y = y' <;> by_cases h3 : w = w' <;> simp [h1, h2, h3]
end L2
set_option Elab.async false
set_option linter.all false
set_option maxRecDepth 100000
set_option maxHeartbeats 4000000
namespace L2
open PySem PySem.Spec PyProof.Rows
section
variable {X : Cx}
theorem IxR.imp {r r' : R2} (h : IxR X r) (i : ∀ x y H Q, r' x y H Q → r x y H Q) : IxR X r' := fun value slice pins s σ H x y v u Q I rx ry q hs => h value slice pins s σ H x y v u Q I rx ry (i x y H Q q) hs
theorem CallR.imp {f : Value} {r r' : List V → Hp → VK → Prop} (h : CallR X f r) (i : ∀ xs H Q, r' xs H Q → r xs H Q) : CallR X f r' := fun pins s σ H xs us Q I rv q => h pins s σ H xs us Q I rv (i xs H Q q)
theorem OpR.imp {f : Value → Value → Sem Value} {r r' : R2} (h : OpR X f r) (i : ∀ x y H Q, r' x y H Q → r x y H Q) : OpR X f r' := fun pins s σ H x y v u Q I rx ry q => h pins s σ H x y v u Q I rx ry (i x y H Q q)
def rIxTH : R2 := fun x y H Q => ∃ p xs i v, x = .ref p ∧ y = .int i ∧ H p = some (.tup xs) ∧ atI xs i = some v ∧ Q v H
def rIxLH : R2 := fun x y H Q => ∃ p xs i v, x = .ref p ∧ y = .int i ∧ H p = some (.lst xs) ∧ atI xs i = some v ∧ Q v H
theorem ix_tupH : IxR X rIxTH := ix_tup.imp fun x y H Q ⟨p, xs, i, v, e1, e2, h, e3, q⟩ => ⟨p, xs, i, v, e1, e2, .of h, e3, q⟩
theorem ix_listH : IxR X rIxLH := ix_list.imp fun x y H Q ⟨p, xs, i, v, e1, e2, h, e3, q⟩ => ⟨p, xs, i, v, e1, e2, .of h, e3, q⟩
def rLenH : List V → Hp → VK → Prop := fun xs H Q => ∃ p ys, xs = [.ref p] ∧ (H p = some (.lst ys) ∨ H p = some (.tup ys)) ∧ Q (.int ys.length) H
theorem call_lenH : CallR X (.builtin "len") rLenH := call_len_seq.imp fun xs H Q ⟨p, ys, e, h, q⟩ => ⟨p, ys, e, h.imp .of .of, q⟩
def tyF (H : Hp) (x : V) : Option String := match x with
  | .non => some "NoneType"
  | .bl _ => some "bool"
  | .int _ => some "int"
  | .str _ => some "str"
  | .ref p => match H p with
    | some (.lst _) => some "list"
    | some (.tup _) => some "tuple"
    | _ => none
  | _ => none
theorem tyF_tyN {K : PySem.W.Frag} {H : Hp} {x : V} {T : String} (h : tyF H x = some T) : tyN K H x T := by
  cases x with
  | non => exact (Option.some.inj h).symm
  | bl b => exact (Option.some.inj h).symm
  | int i => exact (Option.some.inj h).symm
  | str z => exact (Option.some.inj h).symm
  | ref p =>
    unfold tyF at h
    dsimp only at h
    cases q : H p with
    | none => rw [q] at h; cases h
    | some o =>
      rw [q] at h
      cases o with
      | lst xs => exact .inl ⟨(Option.some.inj h).symm, xs, .of q⟩
      | tup xs => exact .inr (.inl ⟨(Option.some.inj h).symm, xs, .of q⟩)
      | _ => cases h
  | _ => cases h
def rIsiF (T : String) : List V → Hp → VK → Prop := fun xs H Q => ∃ x Tx, xs = [x, .ty T] ∧ tyF H x = some Tx ∧ Q (.bl (isiB Tx T)) H
theorem isiF {T : String} (h : CallR X (.builtin "isinstance") (rIsi X.K T)) : CallR X (.builtin "isinstance") (rIsiF T) := h.imp fun xs H Q ⟨x, Tx, e, t, q⟩ => ⟨x, Tx, e, tyF_tyN t, q⟩
end
theorem tyF_lst {H : Hp} {p : Addr} {xs : List V} (h : H p = some (.lst xs)) : tyF H (.ref p) = some "list" := by unfold tyF; dsimp only; rw [h]
theorem tyF_tup {H : Hp} {p : Addr} {xs : List V} (h : H p = some (.tup xs)) : tyF H (.ref p) = some "tuple" := by unfold tyF; dsimp only; rw [h]
theorem tyF_non {H : Hp} : tyF H .non = some "NoneType" := rfl
theorem tyF_bl {H : Hp} {b : Bool} : tyF H (.bl b) = some "bool" := rfl
theorem tyF_int {H : Hp} {i : Int} : tyF H (.int i) = some "int" := rfl
theorem tyF_str {H : Hp} {z : Str} : tyF H (.str z) = some "str" := rfl
theorem at0 {α : Type} {x : α} {r : List α} : atI (x :: r) 0 = some x := atI_nat (j := 0) rfl
theorem at1 {α : Type} {x y : α} {r : List α} : atI (x :: y :: r) 1 = some y := atI_nat (j := 1) rfl
theorem at2 {α : Type} {x y z : α} {r : List α} : atI (x :: y :: z :: r) 2 = some z := atI_nat (j := 2) rfl
theorem at3 {α : Type} {x y z t : α} {r : List α} : atI (x :: y :: z :: t :: r) 3 = some t := atI_nat (j := 3) rfl
theorem at4 {α : Type} {x y z t u : α} {r : List α} : atI (x :: y :: z :: t :: u :: r) 4 = some u := atI_nat (j := 4) rfl
theorem at5 {α : Type} {x y z t u v : α} {r : List α} : atI (x :: y :: z :: t :: u :: v :: r) 5 = some v := atI_nat (j := 5) rfl
theorem at6 {α : Type} {x y z t u v w : α} {r : List α} : atI (x :: y :: z :: t :: u :: v :: w :: r) 6 = some w := atI_nat (j := 6) rfl
theorem at7 {α : Type} {x y z t u v w x' : α} {r : List α} : atI (x :: y :: z :: t :: u :: v :: w :: x' :: r) 7 = some x' := atI_nat (j := 7) rfl
theorem at8 {α : Type} {x y z t u v w x' y' : α} {r : List α} : atI (x :: y :: z :: t :: u :: v :: w :: x' :: y' :: r) 8 = some y' := atI_nat (j := 8) rfl
theorem same_put {H H' : Hp} {D : Addr} {o : HO} (g : Same H H') (h : H D = none) : Same H (upd H' D o) := fun b u q => by
  rw [upd_ne (ne_of_none q h)]
  exact g b u q
end L2
set_option Elab.async false
set_option linter.all false
set_option maxRecDepth 100000
set_option maxHeartbeats 4000000
namespace L2
open PySem PySem.Spec PyProof.Rows
section
variable {X : Cx}
theorem SlR.imp {r r' : V → Option Int → Option Int → Hp → VK → Prop} (h : SlR X r) (i : ∀ x lo hi H Q, r' x lo hi H Q → r x lo hi H Q) : SlR X r' := fun pins s σ H x v vl vu lo hi sl Q I rx hs pl pu q => h pins s σ H x v vl vu lo hi sl Q I rx hs pl pu (i x lo hi H Q q)
def rSlH : V → Option Int → Option Int → Hp → VK → Prop := fun x lo hi H Q => ∃ a xs, x = .ref a ∧ H a = some (.lst xs) ∧ ∀ p, H p = none → Q (.ref p) (upd H p (.lst (cutV xs lo hi)))
theorem sl_listH : SlR X rSlH := sl_list.imp fun x lo hi H Q ⟨a, xs, e, h, q⟩ => ⟨a, xs, e, .of h, q⟩
def rListH : List V → Hp → VK → Prop := fun xs H Q => ∃ p ys, xs = [.ref p] ∧ (H p = some (.lst ys) ∨ H p = some (.tup ys)) ∧ ∀ l, H l = none → Q (.ref l) (upd H l (.lst ys))
theorem call_listH : CallR X (.type "list") rListH := call_list_of.imp fun xs H Q ⟨p, ys, e, h, q⟩ => ⟨p, ys, e, h.imp .of .of, q⟩
def rIntB : List V → Hp → VK → Prop := fun xs H Q => ∃ k, xs = [.bl k] ∧ Q (.int (if k = true then 1 else 0)) H
theorem call_intB : CallR X (.type "int") rIntB := call_int1.imp fun xs H Q h => .inr h
theorem tyV_of {K : PySem.W.Frag} {H : Hp} {p : Addr} {xs : List V} (h : H p = some (.lst xs)) : tyV K "list" (.ref p) H := .inl ⟨rfl, xs, .of h⟩
theorem bt_min : bootBuiltins "min" = some (.builtin "min") := by decide +kernel
theorem bt_max : bootBuiltins "max" = some (.builtin "max") := by decide +kernel
end
section
variable {prog : Program} {w : World} {A : Around} {E : Value → Shared → Prop}
theorem draw_lst {it t : Addr} {items : Array Value} (ne : t ≠ it) (n : Nat) : ∀ (i : Nat) (s : Shared) (R : List Value → Shared → Prop), s.heap.IsListIter it t i → s.heap.IsList t items → i + n ≤ items.size →
    (∀ g, g.IsListIter it t (i + n) → Heap.SameBut it s.heap g → R ((items.toList.drop i).take n) { s with heap := g }) → wpAny (model prog w) A (draw (.ref it) n) R E s := by
  induction n with
  | zero =>
    intro i s R hi _ _ hR
    have z := hR s.heap hi (.refl ..)
    exact wpAny_pure (by simpa using z)
  | succ n ih =>
    intro i s R hi hl hz hR
    have lt : i < items.size := by omega
    show wpAny (model prog w) A (pyNext (.ref it) >>= _) R E s
    refine wpAny_bind (wpAny_pyNext_list_item hi hl (x := items[i]) (by simp [lt]) fun g1 hi1 sb1 => ?_)
    refine wpAny_bind (wpAny_holding (ih (i + 1) _ _ hi1 (hl.extBut sb1.extBut ne) (by omega) fun g2 hi2 sb2 => wpAny_pure ?_))
    have cut : items.toList.drop i = items[i] :: items.toList.drop (i + 1) := by simp [List.drop_eq_getElem_cons, lt]
    have z := hR g2 (by rw [show i + (n + 1) = i + 1 + n by omega]; exact hi2) (sb1.trans sb2)
    rw [cut, List.take_succ_cons] at z
    exact z
theorem items_lst {t : Addr} {items : Array Value} {s : Shared} {R : List Value → Shared → Prop} (hh : A.handled = none) (ht : s.heap.IsList t items)
    (hR : ∀ g, Heap.ExtBut s.heap.objs.size s.heap g → R items.toList { s with heap := g }) : wpAny (model prog w) A (unpackItems (.ref t) items.size none) R E s := by
  have ne : t ≠ s.heap.objs.size := by obtain ⟨o, ho, _⟩ := ht; exact Nat.ne_of_lt (Heap.lt_size ho)
  unfold unpackItems notIterableAtAll
  refine wpAny_bind (wpAny_bind (wpAny_specialOf ht.typeIs slot_list_iter.lookup (wpAny_pure ?_)))
  simp only [Bool.false_eq_true, if_false]
  refine wpAny_bind (wpAny_holding (wpAny_pyIter_list ht (wpAny_bind (wpAny_holding (draw_lst ne items.size 0 _ _ ⟨_, Heap.get?_push_size _ rfl, rfl, rfl⟩ (ht.push _) (by omega) fun g1 hi1 sb1 => ?_)))))
  have all : List.take items.size (List.drop 0 items.toList) = items.toList := by
    rw [List.drop_zero, List.take_of_length_le (by simp)]
  rw [all, if_neg (by simp)]
  have ht1 : g1.IsList t items := (ht.push _).extBut sb1.extBut ne
  refine wpAny_bind (wpAny_holding (wpAny_pyNext_list_end hh hi1 ht1 (by simp) fun g2 e2 => ?_))
  simp only [Option.isSome_none, Bool.false_eq_true, if_false]
  exact wpAny_pure (hR g2 fun b o hb e => e2 b o hb (sb1.extBut b o hb (Heap.get?_push_of_some _ e)))
end
section
variable {X : Cx} {pos p2 : Pos}
def gLst (K : PySem.W.Frag) (n : Nat) (t : TGs) : TG := fun v σ H Q => ∃ a xs, v = .ref a ∧ SqL K H a xs ∧ xs.length = n ∧ t xs σ H Q
theorem pg_lst {es : List Expr} {k : Nat} {t : TGs} {n : Nat} (hc : X.calm = true) (h : PGs X es t)
    (hn : (assignEach es X.env).length = n := by rfl) (hst : (assignEach es X.env).findIdx? (·.1) = none := by rfl) : PG X (.Tuple es k pos) (gLst X.K n t) := by
  intro pins s σ H v u Q I r hw
  obtain ⟨a, xs, e1, hq, hl, hw⟩ := hw
  subst e1
  cases r
  obtain ⟨its, rv, pl, hz⟩ := I.list hq
  rw [assign_Tuple]
  refine wpAny_bind (wpAny_standAt ?_)
  unfold unpack
  have hsz : (assignEach es X.env).length = its.toArray.size := by rw [hn, ← hl, rv.length, List.size_toArray]
  rw [hsz, hst]
  refine wpAny_bind (wpAny_holding (items_lst (I.ok.hd hc) pl.isList fun g e => ?_))
  have I1 : Inv X pins σ H { s with heap := g } := I.kept (t' := s.toks) fun b o q => e b o (Nat.ne_of_lt (Heap.lt_size q)) q
  exact h pins _ σ H xs _ Q I1 (by simpa using rv) hw
def gSl (to : TE) (tl th : TO) : TG := fun v σ H Q => to σ H fun o H1 => tl σ H1 fun l H2 => th σ H2 fun u H3 =>
  ∃ p b xs ys a c, o = .ref p ∧ v = .ref b ∧ l = some a ∧ u = some c ∧ H3 p = some (.lst xs) ∧ H3 b = some (.lst ys) ∧ p ≠ b ∧ 0 ≤ a ∧ a ≤ c ∧ c ≤ xs.length ∧ xs.length + ys.length ≤ sizeLine ∧ Q σ (upd H3 p (.lst (xs.take a.toNat ++ ys ++ xs.drop c.toNat)))
theorem pg_slice {o : Expr} {lo hi : Option Expr} {to : TE} {tl th : TO} (ho : PE X o to) (hl : PO X lo tl) (hu : PO X hi th)
    (ha : ∀ v, assign (.Subscript o (.Slice lo hi none p2) pos) X.env v = (holding [v] (eval o X.env) >>= fun ov => holding [v, ov] (eval (.Slice lo hi none p2) X.env) >>= fun iv => standAt pos >>= fun _ => holding [v, ov, iv] (setItem ov iv v) >>= fun _ => release [iv, v, ov] []) := by intro _; rfl) :
    PG X (.Subscript o (.Slice lo hi none p2) pos) (gSl to tl th) := by
  intro pins s σ H v u Q I r h
  rw [ha]
  refine wpAny_bind (wpAny_holding (thn (ho pins s σ H _ I h) fun ov s1 ⟨x, H1, I1, r1, q1⟩ => ?_))
  refine wpAny_bind (wpAny_holding (wpAny_Slice (thn (hl pins s1 σ H1 _ I1 q1) fun vl s2 ⟨l, H2, I2, pl, q2⟩ => thn (hu pins s2 σ H2 _ I2 q2) fun vu s3 ⟨c, H3, I3, pu, q3⟩ => ?_)))
  rw [evalPart_none]
  refine wpAny_pure ?_
  obtain ⟨p, b, xs, ys, a, cc, rfl, rfl, rfl, rfl, hp, hb, hne, h0, hac, hc, hz, q⟩ := q3
  cases r1
  cases r
  obtain ⟨ta, rfl⟩ : ∃ t, vl = .int a t := by cases pl; exact ⟨_, rfl⟩
  obtain ⟨tc, rfl⟩ : ∃ t, vu = .int cc t := by cases pu; exact ⟨_, rfl⟩
  have I4 : Inv X pins σ H3 { s3 with heap := s3.heap.push { cls := .type "slice", data := .fields #[.int a ta, .int cc tc, .none] } } := I3.kept (t' := s3.toks) fun b ob q => Heap.get?_push_of_some _ q
  refine wpAny_bind (wpAny_standAt (wpAny_bind (wpAny_holding (set_slice I4 hp hb hne (Heap.IsSliceOf.new ..) ⟨_, rfl⟩ ⟨_, rfl⟩ h0 hac hc hz fun s' I' => ?_))))
  exact wpAny_release ⟨σ, _, I', q⟩
end
end L2
set_option Elab.async false
set_option linter.all false
set_option maxRecDepth 100000
set_option maxHeartbeats 4000000
namespace L2
open PySem PySem.Spec PyProof.Rows
def ForW (J : It) (g : TG) (tb : TS) (D : Ends) (σ : St) (H : Hp) : Prop := ∃ W : Nat → Nat → St → Hp → Prop, (∃ m, W 0 m σ H) ∧ ∀ i m σ H, W i m σ H →
  (J.stop i H ∧ D.nx σ H) ∨ (J.go i H ∧ ∃ N : St → Hp → Prop, (∀ σ' H', N σ' H' → ∃ m', m' < m ∧ W (i + 1) m' σ' H') ∧ ∀ x H', J.yld i H x H' → g x σ H' fun σ2 H2 => tb { D with nx := N, ct := N, bk := D.nx } σ2 H2)
theorem tFor_mk {wi : TI} {g : TG} {tb : TS} {D : Ends} {σ : St} {H : Hp} (h : wi σ H fun J H1 => ForW J g tb D σ H1) : tFor wi g tb D σ H := h
theorem forW_list {K : PySem.W.Frag} {a : Addr} {xs : List V} {g : TG} {tb : TS} {D : Ends} {σ : St} {H : Hp} (Pv : Nat → St → Hp → Prop) (h0 : Pv 0 σ H) (hl : ∀ i σ H, i ≤ xs.length → Pv i σ H → SqL K H a xs)
    (hs : ∀ i x σ H, xs[i]? = some x → Pv i σ H → g x σ H fun σ2 H2 => tb { D with nx := Pv (i + 1), ct := Pv (i + 1), bk := D.nx } σ2 H2) (hd : ∀ σ H, Pv xs.length σ H → D.nx σ H) : ForW (Itl K a) g tb D σ H := for_list Pv h0 hl hs hd
theorem flying_grown {base h h' : Heap} {l : List Env} {e : Addr} {cls a0 : Value} (x : Heap.FlyingW base l e cls a0 h) (k : ∀ b o, h.get? b = some o → h'.get? b = some o) : Heap.FlyingW base l e cls a0 h' := by
  obtain ⟨f1, f2, f3, oe, vs, T, oT, ts, he, hc, hd, h1, hnT, hTe, hT, hdT, h3⟩ := x
  exact ⟨fun b o q => k b o (f1 b o q), f2, f3.of_keeps fun b o q _ => ⟨o, k b o q, rfl⟩, oe, vs, T, oT, ts, k _ _ he, hc, hd, h1, hnT, hTe, k _ _ hT, hdT, h3⟩
section
open PySem.W
variable {M : Model} {K : PySem.W.Frag}
theorem exm_five {c1 c2 c3 c4 c5 cls : Value} {tp e : Addr} {h : Heap} (X : K.In h) (ty : Looks M h (typeOf (.ref e)) cls) (at5 : h.get? tp = some { cls := .type "tuple", data := .seq [c1, c2, c3, c4, c5].toArray })
    (x1 : exmOne K cls c1 = some false) (x2 : exmOne K cls c2 = some false) (x3 : exmOne K cls c3 = some false) (x4 : exmOne K cls c4 = some false) (x5 : exmOne K cls c5 = some false) : Looks M h (excMatches (.ref e) (.ref tp)) false := by
  intro A Q E s k0 q
  obtain ⟨hh, gs, dr, tk, os⟩ := s
  have k : ∀ b o, h.get? b = some o → hh.get? b = some o := k0
  have isT : Looks M hh (isInstance (.ref tp) (.type "tuple")) true := (((Looks.ld at5).andThen .now).andThen (Looks.of_pure isSubtype_tuple_tuple)).keeps k
  have tyh := ty.keeps k
  obtain ⟨a1, b1⟩ := exm_cls (M := M) X x1
  obtain ⟨a2, b2⟩ := exm_cls (M := M) X x2
  obtain ⟨a3, b3⟩ := exm_cls (M := M) X x3
  obtain ⟨a4, b4⟩ := exm_cls (M := M) X x4
  obtain ⟨a5, b5⟩ := exm_cls (M := M) X x5
  have a1 := a1.keeps k
  have a2 := a2.keeps k
  have a3 := a3.keeps k
  have a4 := a4.keeps k
  have a5 := a5.keeps k
  have b1 := b1.keeps k
  have b2 := b2.keeps k
  have b3 := b3.keeps k
  have b4 := b4.keeps k
  have b5 := b5.keeps k
  have tph := k _ _ at5
  unfold excMatches
  refine wpAny_bind (isT.at ?_)
  dsimp only
  rw [if_pos rfl]
  first
    | refine wpAny_bind (wpAny_bind (wpAny_seqItems tph rfl (wpAny_pure ?_)))
    | refine wpAny_bind (wpAny_seqItems tph rfl ?_)
  dsimp only [Option.getD_some, Option.getD]
  repeat (first | lk | simp only [List.forIn_cons, List.forIn_nil, if_true, if_false, Bool.not_true, Bool.false_eq_true])
  exact q
end
def tTry2 (K : PySem.W.Frag) (n i : Nat) (cs : List Addr) (c : Value) (tb : XK → TS) (th : TS) : TS := fun D σ H => ∃ E : XK, tb E D σ H ∧ ∀ cls dx H', E cls dx H' → ∃ Dc : Addr, cls = .ref Dc ∧ (∀ C ∈ cs, PySem.W.exmOne K (.ref Dc) (.ref C) = some false) ∧ PySem.W.exmOne K (.ref Dc) c = some true ∧
  ∀ ea, H' ea = none → th { nx := fun _ H2 => D.nx (List.replicate n none) H2, rt := D.rt, bk := fun _ H2 => D.bk (List.replicate n none) H2, ct := fun _ H2 => D.ct (List.replicate n none) H2 } ((List.replicate n none).set i (some (.ref ea))) (upd H' ea (excO ea Dc))
section
variable {X : Cx} {body suite : List Stmt} {b₀ : Stmt} {x nm : Str} {np hpos pos : Pos} {i : Nat} {C : Addr} {tb : XK → TS} {th : TS}
theorem ps_try_two {n : Nat} {K : PySem.W.Frag} {y1 y2 y3 y4 y5 : Str} {q1 q2 q3 q4 q5 qt qh : Pos} {kt : Nat} {C1 C2 C3 C4 C5 : Addr} {first : List Stmt} (hg1 : Gl X y1) (hm1 : X.mg y1 = some (.ref C1)) (hg2 : Gl X y2) (hm2 : X.mg y2 = some (.ref C2)) (hg3 : Gl X y3) (hm3 : X.mg y3 = some (.ref C3)) (hg4 : Gl X y4) (hm4 : X.mg y4 = some (.ref C4)) (hg5 : Gl X y5) (hm5 : X.mg y5 = some (.ref C5)) (hK : X.K = K) (hn : X.N.length = n) (hst : X.stack = X.env :: X.outer) (hfr : X.env.frame = some X.env.locals) (hex : X.ex = []) (hN : X.N.Nodup) (hi : X.N[i]? = some nm) (hlo : X.env.scope.names.lookup nm = some .local) (hg : Gl X x) (hm : X.mg x = some (.ref C))
    (hb : ∀ (W : Value → Shared → Prop) (pn : List (Addr × Obj)) (E : XK), Passes (CXr X.prog X.w) (X.tin W pn) E → PSs (X.tin W pn) body (tb E)) (hh : ∀ (ea : Addr) (pn : List (Addr × Obj)), PSs (X.hin ea pn) (b₀ :: suite) th)
    (hf : X.fn nm = true ∨ X.env.scope.names.lookup nm = some .local := by first | exact .inl rfl | exact .inr rfl) (hdb : (x == ("__debug__" : Str)) = false := by decide) (hd1 : (y1 == ("__debug__" : Str)) = false := by decide) (hd2 : (y2 == ("__debug__" : Str)) = false := by decide) (hd3 : (y3 == ("__debug__" : Str)) = false := by decide) (hd4 : (y4 == ("__debug__" : Str)) = false := by decide) (hd5 : (y5 == ("__debug__" : Str)) = false := by decide) :
    PS X (.Try body [.ExceptHandler (some (.Tuple [.Name y1 q1, .Name y2 q2, .Name y3 q3, .Name y4 q4, .Name y5 q5] kt qt)) none first qh, .ExceptHandler (some (.Name x np)) (some nm) (b₀ :: suite) hpos] [] [] pos) (tTry2 K n i [C1, C2, C3, C4, C5] (.ref C) tb th) := by
  subst hK hn
  intro pins s σ H D I h
  obtain ⟨E, h1, h2⟩ := h
  refine wpAny_Try_except ?_
  have go := hb (fun e s₁ => wpAny (model X.prog X.w) X.A (noteFrame e X.env) (fun _ s₂ => wpAny (model X.prog X.w) X.A (setFlight e none) (fun _ s₃ =>
    wpAny (model X.prog X.w) X.A (handleBy e X.env [.ExceptHandler (some (.Tuple [.Name y1 q1, .Name y2 q2, .Name y3 q3, .Name y4 q4, .Name y5 q5] kt qt)) none first qh, .ExceptHandler (some (.Name x np)) (some nm) (b₀ :: suite) hpos]) (SP X pins D) X.xe s₃) X.xe s₂) X.xe s₁) (X.pn ++ pins) E ?key
  · refine wpAny_mono (go [] s σ H D (I.tin _) h1) (fun f s1 q => ?_) fun e s1 q => q
    have q' := SP.untin I.ok q
    cases f with
    | next => exact wpAny_execs_nil q'
    | brk => exact q'
    | cont => exact q'
    | ret u => exact q'
  intro pins1 σ1 H1 s1 e s' I1 hx
  obtain ⟨ea, cls, H2, rfl, os, bare, F, hE⟩ := hx
  obtain ⟨Dc, rfl, hno, hmx, hth⟩ := h2 cls none H2 hE
  obtain ⟨B, a0, fl, hokB, old, there⟩ := F.fly
  have hea : H2 ea = none := hokB.free_of fl.2.1
  have fun1 : s1.heap.FunFrames X.base X.stack := I1.stack
  have inv : ∀ h6 : Heap, Heap.FlyingW B X.stack ea (.ref Dc) a0 h6 → s'.heap.UpToSlots h6 → Inv (X.hin ea (X.pn ++ pins)) pins1 (List.replicate X.N.length none) (upd H2 ea (excO ea Dc)) { s' with heap := h6 } := fun h6 f6 up => by
    have st : ∀ b o, s1.heap.get? b = some o → b ∈ frs X.stack → H1 b = none → ∃ sl, h6.get? b = some { o with slots := sl } := fun b o q hb n => by
      obtain ⟨sl, q1⟩ := F.un.slot b o q n hb (by simp)
      obtain ⟨_, o', q', d⟩ := fun1.mem hb
      rw [q] at q'; cases q'
      obtain ⟨sl', q2⟩ := up b _ q1 d
      exact ⟨sl', q2⟩
    have nea : ∀ b o, s1.heap.get? b = some o → b ≠ ea := fun b o q z => by rw [z, F.new] at q; cases q
    refine (Inv.call' (ch := []) (s' := { s' with heap := h6 }) I1.forget os ⟨fun b o q n hb _ => f6.1 b o (old b o q n hb), fun b o q n hb _ => st b o q hb n, fun b o q n _ => ?_, fun b o q _ => ?_, fun b xs q => ?_, fun b o u q => ?_, fun b ps q => ?_⟩ ?_ bare (fun b z => absurd z (by simp))).hin I.ok ea
    · rw [upd_ne (nea b o q)]; exact F.un.free b o q n (by simp)
    · by_cases hb : b ∈ frs X.stack
      · obtain ⟨sl, q1⟩ := st b o q hb (I1.stkFree b hb)
        exact ⟨_, q1⟩
      · obtain ⟨o', q1⟩ := there b o q hb
        exact ⟨o', f6.1 b o' q1⟩
    · have q' := F.un.tups b xs q
      rw [upd_ne (ne_of_none q' hea)]; exact q'
    · have q' := F.un.frzs b o u q
      rw [upd_ne (ne_of_none q' hea)]; exact q'
    · obtain ⟨mo, q'⟩ := F.un.tbls b ps q
      exact ⟨mo, by rw [upd_ne (ne_of_none q' hea)]; exact q'⟩
    · intro b u q
      by_cases hb : b = ea
      · subst hb
        rw [upd_same] at q; cases q
        obtain ⟨_, _, _, oe, vs, T, oT, ts, he, hc, hd, _⟩ := f6
        exact ⟨⟨oe, vs, he, hc.1, hd⟩, ⟨oe, he⟩, fun g1 g2 ⟨o, vs, p1, p2, p3⟩ k => ⟨o, vs, k o p1, p2, p3⟩⟩
      · rw [upd_ne hb] at q
        refine (hokB b u q).stay (fun c v _ r => f6.1 c v r) (fun c r => ?_) fun c xs r => ?_
        · rw [upd_ne (ne_of_none r hea)]; exact r
        · rw [upd_ne (ne_of_none r hea)]; exact r
  rw [hst] at fl inv
  refine wpAny_looks_onW (I.ok.frames.trans (by rw [hst])) hfr fl fun h₄ held₄ sm₄ => ?_
  refine wpAny_landsW held₄ fun h₅ fl₅ sm₅ => ?_
  have up₅ := sm₄.trans sm₅
  have I5 := inv h₅ fl₅ up₅
  refine wpAny_handleBy_cons (codeAny_handlers_test (wpAny_Tuple_spliced ?_)) (by intro q; cases q)
  show wpAny (model X.prog X.w) (X.A.mark (some (.ref ea))) (spliced ((false, eval (.Name y1 q1) X.env) :: (false, eval (.Name y2 q2) X.env) :: (false, eval (.Name y3 q3) X.env) :: (false, eval (.Name y4 q4) X.env) :: (false, eval (.Name y5 q5) X.env) :: [])) _ _ _
  refine Calls.spliced_cons (ld_glob (X := X.hin ea (X.pn ++ pins)) I5 hg1 hm1 ?_ hd1)
  refine Calls.spliced_cons (ld_glob (X := X.hin ea (X.pn ++ pins)) I5 hg2 hm2 ?_ hd2)
  refine Calls.spliced_cons (ld_glob (X := X.hin ea (X.pn ++ pins)) I5 hg3 hm3 ?_ hd3)
  refine Calls.spliced_cons (ld_glob (X := X.hin ea (X.pn ++ pins)) I5 hg4 hm4 ?_ hd4)
  refine Calls.spliced_cons (ld_glob (X := X.hin ea (X.pn ++ pins)) I5 hg5 hm5 ?_ hd5)
  refine Calls.spliced_nil ⟨(by show 5 ≤ sizeLine; decide), ?_⟩
  have grow : ∀ b o, h₅.get? b = some o → (h₅.push { cls := .type "tuple", data := .seq [Value.ref C1, .ref C2, .ref C3, .ref C4, .ref C5].toArray }).get? b = some o := fun b o q => Heap.get?_push_of_some _ q
  have tupAt : (h₅.push { cls := .type "tuple", data := .seq [Value.ref C1, .ref C2, .ref C3, .ref C4, .ref C5].toArray }).get? h₅.objs.size = some { cls := .type "tuple", data := .seq [Value.ref C1, .ref C2, .ref C3, .ref C4, .ref C5].toArray } := Heap.get?_push_size _ rfl
  have fl₇ := flying_grown fl₅ grow
  have up₇ := up₅.trans (Heap.UpToSlots.of_keeps grow)
  have I7' := inv _ fl₇ up₇
  obtain ⟨ob5, hob5, hoc5⟩ := fl₇.there
  have ty5 : PySem.W.Looks (model X.prog X.w) (h₅.push { cls := .type "tuple", data := .seq [Value.ref C1, .ref C2, .ref C3, .ref C4, .ref C5].toArray }) (typeOf (.ref ea)) (.ref Dc) := hoc5 ▸ (PySem.W.Looks.ld hob5).andThen .now
  refine PySem.W.Looks.here (exm_five (show X.K.In _ from I7'.kIn) ty5 tupAt (hno C1 (by simp)) (hno C2 (by simp)) (hno C3 (by simp)) (hno C4 (by simp)) (hno C5 (by simp))) ?_
  generalize h₅.push { cls := .type "tuple", data := .seq [Value.ref C1, .ref C2, .ref C3, .ref C4, .ref C5].toArray } = h₇ at *
  refine wpAny_handleBy_cons (codeAny_handlers_test (ld_glob (X := X.hin ea (X.pn ++ pins)) I7' hg hm ?_ hdb)) (by intro q; cases q)
  obtain ⟨ob, hob, hoc⟩ := fl₇.there
  have ty : PySem.W.Looks (model X.prog X.w) h₇ (typeOf (.ref ea)) (.ref Dc) := hoc ▸ (PySem.W.Looks.ld hob).andThen .now
  refine PySem.W.Looks.here (s := { s' with heap := h₇ }) (PySem.W.exm_one (show X.K.In h₇ from I7'.kIn) ty hmx) ?_
  refine codeAny_handlers_suite_as (lands_againW fl₇ fun h₆ fl₆ sm₆ => ?_)
  have I6 := inv h₆ fl₆ (up₇.trans sm₆)
  refine store_ok (X := X.hin ea (X.pn ++ pins)) (v := .ref ea) I6 hN hi (.inl hlo) rfl (fun s7 I7 => ?_) hf
  refine wpAny_mono (hh ea _ pins1 s7 _ _ _ I7 (hth ea hea)) (fun f s8 q => ?_) fun _ _ z => z.elim
  have knd : (X.env.scope.kind == .class || (X.env.scope.kind == .module && X.env.locals != X.env.globals)) = false := by rw [I.ok.kind]; rfl
  cases f with
  | next =>
    obtain ⟨σ', H', I8, q⟩ := q
    obtain ⟨m, hn, _⟩ := id I8.loc
    exact wpAny_nameGoes hlo hn knd fun h' m' hn' hs => ⟨_, H', I8.back I.ok hn' hs, q⟩
  | brk =>
    obtain ⟨σ', H', I8, q⟩ := q
    obtain ⟨m, hn, _⟩ := id I8.loc
    exact wpAny_nameGoes hlo hn knd fun h' m' hn' hs => ⟨_, H', I8.back I.ok hn' hs, q⟩
  | cont =>
    obtain ⟨σ', H', I8, q⟩ := q
    obtain ⟨m, hn, _⟩ := id I8.loc
    exact wpAny_nameGoes hlo hn knd fun h' m' hn' hs => ⟨_, H', I8.back I.ok hn' hs, q⟩
  | ret u =>
    obtain ⟨v, σ', H', I8, r, q⟩ := q
    obtain ⟨m, hn, _⟩ := id I8.loc
    exact wpAny_nameGoes hlo hn knd fun h' m' hn' hs => ⟨v, _, H', I8.back I.ok hn' hs, r, q⟩
end
end L2
set_option Elab.async false
set_option linter.all false
set_option maxRecDepth 100000
set_option maxHeartbeats 4000000
namespace L2
open PySem PySem.Spec PyProof.Rows
section
variable {X : Cx}
def rInsert : V → List V → Hp → VK → Prop := fun x vs H Q => ∃ l xs i y, x = .ref l ∧ vs = [.int i, y] ∧ H l = some (.lst xs) ∧ 0 ≤ i ∧ i < 2 ^ 63 ∧ i.toNat ≤ xs.length ∧ xs.length < sizeLine ∧ Q .non (upd H l (.lst (xs.take i.toNat ++ y :: xs.drop i.toNat)))
theorem mt_insert : MtM X "list.insert" rInsert := by
  intro pins s σ H x vs v us Q I rx rv h
  obtain ⟨l, xs, i, y, rfl, rfl, hH, h1, h2, hi, hz, q⟩ := h
  cases rx
  obtain ⟨u, u2, rfl, ru, ru2⟩ := rv.two
  obtain ⟨t, rfl⟩ := ru
  obtain ⟨z, its, n, r, hl, e⟩ := I.lstM hH
  have hf : Builtin.List.listFitsIndex i = true := fitsIndex_both (by omega) h2
  refine call_meets F.slot_list_insert ⟨_, e, rfl⟩ F.entry_list_insert (F.args_list_insert_3 _ _ _) (AutoSeq1.list_insert_list_int_val_1 l its.toArray n i t u2 (by simp [hf]) (by rw [List.size_toArray]; omega)) ⟨e, ?_⟩
  refine ⟨.non, _, I.lset (its' := its.take i.toNat ++ u2 :: its.drop i.toNat) hH e ?_ ((r.take _).append (.cons ru2 (r.drop _))) ?_, rfl, q⟩
  · show (its.toArray.extract 0 (if i < 0 then (i + (its.toArray.size : Int)).toNat else min i.toNat its.toArray.size)).push u2 ++ its.toArray.extract (if i < 0 then (i + (its.toArray.size : Int)).toNat else min i.toNat its.toArray.size) = _
    rw [if_neg (by omega), List.size_toArray, Nat.min_eq_left (by omega)]
    apply Array.toList_inj.mp
    simp
    exact List.take_of_length_le (by simp)
  · rw [List.length_append, List.length_cons, List.length_take, List.length_drop]
    omega
def rIxA : R2 := fun x y H Q => ∃ p xs i v, x = .ref p ∧ y = .int i ∧ (H p = some (.lst xs) ∨ H p = some (.tup xs)) ∧ atI xs i = some v ∧ Q v H
theorem ix_any : IxR X rIxA := fun value slice pins s σ H x y v u Q I rx ry q hs => by
  obtain ⟨p, xs, i, z, e1, e2, h | h, e3, q⟩ := q
  · exact ix_listH value slice pins s σ H x y v u Q I rx ry ⟨p, xs, i, z, e1, e2, h, e3, q⟩ hs
  · exact ix_tupH value slice pins s σ H x y v u Q I rx ry ⟨p, xs, i, z, e1, e2, h, e3, q⟩ hs
end
theorem isi_tb : isiB "tuple" "bool" = false := by decide +kernel
theorem isi_lb : isiB "list" "bool" = false := by decide +kernel
theorem isi_lt : isiB "list" "tuple" = false := by decide +kernel
theorem isi_tl : isiB "tuple" "list" = false := by decide +kernel
end L2
set_option Elab.async false
set_option linter.all false
set_option maxRecDepth 100000
set_option maxHeartbeats 4000000
namespace L2
open PySem PySem.Spec PyProof.Rows
section
open PySem.SeqAt
open PySem.AutoSeq1 (wpAny_loadPart')
open PySem.MeetsSeq PySem.MeetsSeq2 PySem.MeetsSeq3
theorem gtRc {A : Around} {s : Shared} {a c : Int} {t u : Tok} (prog : Program) (w : World) (E : Value → Shared → Prop) (Q : Value → Shared → Prop) (h : Q (.bool (decide (c < a))) s) : wpAny (model prog w) A (richCompare .Gt (.int a t) (.int c u)) Q E s :=
  (PyProof.Rows.gt_int h : wpAny (model prog w) A (compareOp .Gt (.int a t) (.int c u)) Q E s)
theorem tupleGt (l b : Addr) (items items2 : Array Value) (n n2 : Nat) (dd dd2 : Option Addr) (sl sl2 : Array (Option Value)) (ns ms : List Int) (hlen : ns.length = ms.length) (hi : IntsAre items.toList ns) (hj : IntsAre items2.toList ms) :
    Meets (Builtin.«tuple.__gt__» ⟨[.ref l, .ref b], []⟩)
      (fun _ R s => s.heap.get? l = some { cls := .type "tuple", dict := dd, data := .seq items n, slots := sl } ∧ s.heap.get? b = some { cls := .type "tuple", dict := dd2, data := .seq items2 n2, slots := sl2 } ∧ R (.ok (.ret (.bool (HT.lexLt ms ns)))) s) :=
  .of_wp fun prog w A R s h => by
    obtain ⟨hp, g, d, tk, os⟩ := s
    obtain ⟨hl, hb, h⟩ := h
    have f2 := AutoSeq1.sub_tuple_tuple
    have z1 : items.size = ns.length := by rw [← hi.length]; simp
    have z2 : items2.size = ms.length := by rw [← hj.length]; simp
    wp_walk using wpAny_loadPart' hl, wpAny_loadPart' hb, wpAny_forIn_list _ (fun rest b s' => b.1 = none ∧ s' = ⟨hp, g, d, tk, os⟩ ∧ ∃ (vs ws : List Value) (ns' ms' : List Int), rest = vs.zip ws ∧ IntsAre vs ns' ∧ IntsAre ws ms' ∧ ns'.length = ms'.length ∧ R (.ok (.ret (.bool (HT.lexLt ms' ns')))) ⟨hp, g, d, tk, os⟩) _
    case turn =>
      rintro ⟨y, x⟩ rest b s' ⟨hb', rfl, vs, ws, ns', ms', hz, hvi, hwi, hln, hR⟩
      cases hvi with
      | nil => rw [List.zip_nil_left] at hz; cases hz
      | cons a t hv =>
        cases hwi with
        | nil => rw [List.zip_nil_right] at hz; cases hz
        | cons c u hw =>
          rw [List.zip_cons_cons] at hz
          injection hz with q1 q2
          injection q1 with q3 q4
          subst q3 q4
          rw [HT.lexLt_cons] at hR
          simp only [List.length_cons] at hln
          obtain ⟨e, he, hiff⟩ := HT.eqAt_int A.in1 ⟨hp, g, d, tk, os⟩ a t c u
          refine wpAny_bind (he prog w _ _ ?_)
          cases e with
          | true =>
            rw [if_pos (hiff.mp rfl).symm] at hR
            wp_walk
            exact ⟨rfl, rfl, _, _, _, _, q2, hv, hw, by omega, hR⟩
          | false =>
            rw [if_neg (fun q => absurd (hiff.mpr q.symm) Bool.false_ne_true)] at hR
            have hri := gtRc (A := A.in1) (s := ⟨hp, g, d, tk, os⟩) (a := a) (c := c) (t := t) (u := u) prog w
            wp_walk using hri
            exact ⟨_, rfl, by simpa using hR⟩
    case fin =>
      rintro ⟨b1, b2⟩ s' ⟨hb', rfl, vs, ws, ns', ms', hz, hvi, hwi, hln, hR⟩
      simp only at hb'
      subst hb'
      have hv : HT.lexLt ms' ns' = decide (items2.size < items.size) := by
        rw [decide_eq_false (by omega)]
        cases hvi with
        | nil =>
          cases hwi with
          | nil => rfl
          | cons c u hw => cases hln
        | cons a t hv =>
          cases hwi with
          | nil => cases hln
          | cons c u hw => rw [List.zip_cons_cons] at hz; cases hz
      rw [hv] at hR
      wp_walk
      exact ⟨_, rfl, by simpa [Builtin.Tuple.tupleCompareSizes] using hR⟩
    case h =>
      exact ⟨rfl, rfl, items.toList, items2.toList, ns, ms, rfl, hi, hj, hlen, h⟩
end
section
variable {X : Cx}
def rGt2 : R2 := fun x y H Q => ∃ a b i1 i2 j1 j2, x = .ref a ∧ y = .ref b ∧ H a = some (.tup [.int i1, .int i2]) ∧ H b = some (.tup [.int j1, .int j2]) ∧ Q (.bl (if i1 = j1 then decide (j2 < i2) else decide (j1 < i1))) H
theorem op_gt2 (hu : X.A.units + 64 < cLine) : OpR X (compareOp .Gt) rGt2 := by
  intro pins s σ H x y v u Q I rx ry h
  obtain ⟨a, b, i1, i2, j1, j2, rfl, rfl, ha, hb, q⟩ := h
  cases rx
  cases ry
  have sa : SqT X.K H a ([i1, i2].map V.int) := .of ha
  have sb : SqT X.K H b ([j1, j2].map V.int) := .of hb
  obtain ⟨its, r1, p1, _⟩ := I.tuple sa
  obtain ⟨its2, r2, p2, _⟩ := I.tuple sb
  have e1 : IntsAre its.toArray.toList [i1, i2] := intsAre_of r1
  have e2 : IntsAre its2.toArray.toList [j1, j2] := intsAre_of r2
  obtain ⟨⟨cls, dd, data, sl⟩, ho, hc, n, hd⟩ := id p1
  obtain ⟨⟨cls2, dd2, data2, sl2⟩, ho2, hc2, n2, hd2⟩ := id p2
  simp only at hc hd hc2 hd2
  subst hc hd hc2 hd2
  have ev : HT.lexLt [j1, j2] [i1, i2] = (if i1 = j1 then decide (j2 < i2) else decide (j1 < i1)) := by
    rw [HT.lexLt_cons, HT.lexLt_cons, HT.lexLt_nil_nil]
    by_cases c : i1 = j1
    · subst c
      rw [if_pos rfl, if_pos rfl]
      by_cases c2 : j2 = i2
      · subst c2
        rw [if_pos rfl, decide_eq_false (by omega)]
      · rw [if_neg c2]
    · rw [if_neg c, if_neg (fun z => c z.symm)]
  refine richCompare_meets_room (op := .Gt) ⟨_, ho, rfl⟩ ⟨_, ho2, rfl⟩ PySem.F.slot_tuple_gt PySem.F.entry_tuple_gt (PySem.F.args_tuple_gt_2 _ _) (tupleGt a b its.toArray its2.toArray n n2 dd dd2 sl sl2 [i1, i2] [j1, j2] rfl e1 e2) ⟨ho, ho2, (fun z => nomatch z), ?_⟩ (by omega)
  rw [ev]
  exact ⟨.bl _, H, I, rfl, q⟩
end
section
variable {X : Cx} {pos : Pos}
def gTupH (n : Nat) (t : TGs) : TG := fun v σ H Q => ∃ a xs, v = .ref a ∧ H a = some (.tup xs) ∧ xs.length = n ∧ t xs σ H Q
theorem pg_tupH {es : List Expr} {k : Nat} {t : TGs} {n : Nat} (hc : X.calm = true) (h : PGs X es t) (hn : (assignEach es X.env).length = n := by rfl) (hst : (assignEach es X.env).findIdx? (·.1) = none := by rfl) : PG X (.Tuple es k pos) (gTupH n t) :=
  fun pins s σ H v u Q I r hw => pg_tup hc h hn hst pins s σ H v u Q I r (by
    obtain ⟨a, xs, e, q, l, z⟩ := hw
    exact ⟨a, xs, e, .of q, l, z⟩)
end
end L2
set_option Elab.async false
set_option linter.all false
set_option maxRecDepth 100000
set_option maxHeartbeats 4000000
namespace L2
open PySem PySem.Spec PyProof.Rows
section
variable {prog : Program} {w : World} {A : Around} {E : Value → Shared → Prop} {s : Shared}
theorem nextT_item {c t : Addr} {i : Nat} {its : Array Value} {v : Value} {R : Value → Shared → Prop} (hi : s.heap.IsTupleIter c t i) (ht : s.heap.IsTuple t its) (hv : its[i]? = some v)
    (hR : ∀ g, g.IsTupleIter c t (i + 1) → Heap.SameBut c s.heap g → R v { s with heap := g }) : wpAny (model prog w) A (Builtin.SmallTypes.nextOf (.ref c)) R E s := by
  obtain ⟨o, ho, hc, hd⟩ := id hi; obtain ⟨o2, ho2, _, n2, hd2⟩ := ht
  unfold Builtin.SmallTypes.nextOf; refine wpAny_bind (wpAny_callSpecial?_slot (name := Str.ofString "__next__") hi.typeIs F.slot_tuple_iterator_next (wpAny_call_entry F.slot_tuple_iterator_next hi.typeIs F.entry_tuple_iterator_next ?_ (F.args_tuple_iterator_next_1 _)))
  show wpAny _ _ (field (.ref c) 0 >>= _) _ _ s; refine wpAny_bind (wpAny_field ho hd (x := .ref t) rfl ?_)
  show wpAny _ _ (if (Value.ref t == Value.none) = true then _ else _) _ _ s; rw [if_neg (show ¬ ((Value.ref t == Value.none) = true) from Bool.false_ne_true)]
  show wpAny _ _ (field (.ref c) 1 >>= _) _ _ s; refine wpAny_bind (wpAny_field ho hd (x := .int i 0) rfl ?_)
  show wpAny _ _ (seqItems? (.ref t) >>= _) _ _ s; refine wpAny_bind (wpAny_seqItems ho2 hd2 ?_); simp only [Int.toNat_natCast, hv]
  refine wpAny_bind (wpAny_setField ho hd (by simp) (wpAny_pure ⟨v, rfl, wpAny_pure (hR _ ⟨_, Heap.get?_update_self _ ho (Obj.isFreed_of_fields (Obj.data_mapFields hd _)), (Obj.cls_mapFields ..).trans hc, ?_⟩ (Heap.SameBut.update ..))⟩)); rw [Obj.data_mapFields hd]; simp [rawInt]
theorem nextT_end {c t : Addr} {i : Nat} {its : Array Value} {R : Value → Shared → Prop} (hh : A.handled = none) (hi : s.heap.IsTupleIter c t i) (ht : s.heap.IsTuple t its) (hv : its[i]? = none)
    (hE : ∀ g e, Heap.ExtBut c s.heap g → (∃ o, g.get? e = some o ∧ o.cls = .type "StopIteration") → E (.ref e) { s with heap := g }) : wpAny (model prog w) A (Builtin.SmallTypes.nextOf (.ref c)) R E s := by
  obtain ⟨o, ho, hc, hd⟩ := id hi; obtain ⟨o2, ho2, _, n2, hd2⟩ := ht
  unfold Builtin.SmallTypes.nextOf; refine wpAny_bind (wpAny_callSpecial?_slot (name := Str.ofString "__next__") hi.typeIs F.slot_tuple_iterator_next (wpAny_call_entry F.slot_tuple_iterator_next hi.typeIs F.entry_tuple_iterator_next ?_ (F.args_tuple_iterator_next_1 _)))
  show wpAny _ _ (field (.ref c) 0 >>= _) _ _ s; refine wpAny_bind (wpAny_field ho hd (x := .ref t) rfl ?_)
  show wpAny _ _ (if (Value.ref t == Value.none) = true then _ else _) _ _ s; rw [if_neg (show ¬ ((Value.ref t == Value.none) = true) from Bool.false_ne_true)]
  show wpAny _ _ (field (.ref c) 1 >>= _) _ _ s; refine wpAny_bind (wpAny_field ho hd (x := .int i 0) rfl ?_)
  show wpAny _ _ (seqItems? (.ref t) >>= _) _ _ s; refine wpAny_bind (wpAny_seqItems ho2 hd2 ?_); simp only [Int.toNat_natCast, hv]
  refine wpAny_bind (wpAny_rule (wpAny_bind (wpAny_setField ho hd (by simp) ?_))); show wpAny _ _ (newExc (.type "StopIteration") [] >>= _) _ _ _
  refine wpAny_bind ?_; simp only [newExc, newTuple]; refine wpAny_bind (wpAny_newObj_type ?_ (by size_fits))
  refine wpAny_bind (m := firstArgMember _ _) (wpAny_of_eq (a := Value.none) (by first | rfl | (simp only [firstArgMember]; rfl)) ?_); refine wpAny_newObj_type ?_ (by size_fits)
  simp only [raiseNew]; refine wpAny_bind (wpAny_handled ?_); first | rw [show A.in1.handled = none from hh] | rw [hh]
  refine wpAny_bind (wpAny_pure (wpAny_throw ?_)); exact hE _ _ (((Heap.SameBut.update ..).extBut.push _).push _) ⟨_, Heap.get?_push_size _ rfl, rfl⟩
theorem zipT_next {z p q i1 i2 l1 l2 : Addr} {k1 k2 : Nat} {xs ys : Array Value} {x y a b : Value} {R : Option Value → Shared → Prop} (D : ZipApart z p q i1 i2 l1 l2) (hz : IsZip s.heap z p q .none) (hp : IsPair s.heap p (.ref i1) (.ref i2)) (hq : IsPair s.heap q a b)
    (h1 : s.heap.IsTupleIter i1 l1 k1) (h2 : s.heap.IsTupleIter i2 l2 k2) (t1 : s.heap.IsTuple l1 xs) (t2 : s.heap.IsTuple l2 ys) (hx : xs[k1]? = some x) (hy : ys[k2]? = some y)
    (hR : ∀ g, IsZip g z p q (rawInt s.heap.objs.size) → IsPair g q x y → g.IsTupleIter i1 l1 (k1 + 1) → g.IsTupleIter i2 l2 (k2 + 1) → IsPair g s.heap.objs.size x y → g.objs.size = s.heap.objs.size + 1 →
      (∀ c o, c ≠ z → c ≠ q → c ≠ i1 → c ≠ i2 → s.heap.get? c = some o → g.get? c = some o) → R (some (.ref s.heap.objs.size)) { s with heap := g }) : wpAny (model prog w) A (pyNext (.ref z)) R E s := by
  have hT : s.TypeIs (.ref z) "zip" := ⟨_, hz, rfl⟩
  unfold pyNext; refine wpAny_bind (wpAny_attempt (wpAny_callSpecial?_slot (name := Str.ofString "__next__") hT F.slot_zip_next (wpAny_call_entry F.slot_zip_next hT F.entry_zip_next ?_ (F.args_zip_next_1 _))))
  show wpAny _ _ (field (.ref z) 2 >>= _) _ _ s; refine wpAny_bind (wpAny_field hz rfl (x := .bool false) rfl ?_)
  show wpAny _ _ (field (.ref z) 3 >>= _) _ _ s; refine wpAny_bind (wpAny_field hz rfl (x := .ref p) rfl (wpAny_bind (wpAny_seqItems hp rfl ?_)))
  show wpAny _ _ (Builtin.SmallTypes.ownedTupleIsFree (.ref z) >>= _) _ _ s; refine wpAny_bind ?_; unfold Builtin.SmallTypes.ownedTupleIsFree
  refine wpAny_bind (wpAny_field hz rfl (x := .none) rfl (wpAny_pure ?_)); simp only [if_true]
  refine wpAny_bind (wpAny_rule (wpAny_bind (wpAny_field hz rfl (x := .ref q) rfl (wpAny_bind (wpAny_setField_rec hz (by simp) fun g1 z1 b1 => ?_)))))
  replace z1 : IsZip g1 z p q .ellipsis := z1
  refine wpAny_bind ?_; simp only [List.zipIdx_cons, List.zipIdx_nil, List.forIn_cons, List.forIn_nil]; refine wpAny_bind (wpAny_bind (wpAny_onRaise ?_))
  show wpAny _ _ (Builtin.SmallTypes.nextOf (.ref i1) >>= _) _ _ _; refine wpAny_bind (nextT_item (h1.extBut b1.extBut D.i1z) (t1.extBut b1.extBut D.l1z) hx fun g2 j1 b2 => wpAny_pure ?_)
  have q2 : IsPair g2 q a b := b2.extBut _ _ D.TOi1 (b1.extBut _ _ D.TOz hq)
  refine wpAny_bind (wpAny_seqItems q2 rfl (wpAny_bind (wpAny_updateSeq_pair q2 fun g3 q3 b3 => ?_))); replace q3 : IsPair g3 q x b := q3
  refine wpAny_bind (wpAny_letGo (wpAny_pure (wpAny_bind (wpAny_bind (wpAny_onRaise ?_)))))
  show wpAny _ _ (Builtin.SmallTypes.nextOf (.ref i2) >>= _) _ _ _
  refine wpAny_bind (nextT_item (((h2.extBut b1.extBut D.i2z).extBut b2.extBut D.i12.symm).extBut b3.extBut D.TOi2.symm) (((t2.extBut b1.extBut D.l2z).extBut b2.extBut D.l2i1).extBut b3.extBut D.l2TO) hy fun g4 j2 b4 => wpAny_pure ?_)
  have q4 : IsPair g4 q x b := b4.extBut _ _ D.TOi2 q3
  refine wpAny_bind (wpAny_seqItems q4 rfl (wpAny_bind (wpAny_updateSeq_pair q4 fun g5 q5 b5 => ?_))); replace q5 : IsPair g5 q x y := q5
  refine wpAny_bind (wpAny_letGo (wpAny_pure (wpAny_pure (wpAny_bind (wpAny_seqItems q5 rfl (wpAny_bind (wpAny_newTuple ?_)))))))
  have sz : g5.objs.size = s.heap.objs.size := by rw [b5.1, b4.1, b3.1, b2.1, b1.1]
  have z5 : IsZip g5 z p q .ellipsis := b5.extBut _ _ D.TOz.symm (b4.extBut _ _ D.i2z.symm (b3.extBut _ _ D.TOz.symm (b2.extBut _ _ D.i1z.symm z1)))
  have k5 : ∀ c o, c ≠ z → c ≠ q → c ≠ i1 → c ≠ i2 → s.heap.get? c = some o → g5.get? c = some o := fun c o c1 c2 c3 c4 e => b5.extBut _ _ c2 (b4.extBut _ _ c4 (b3.extBut _ _ c2 (b2.extBut _ _ c3 (b1.extBut _ _ c1 e))))
  have u1 : g5.IsTupleIter i1 l1 (k1 + 1) := ((j1.extBut b3.extBut D.TOi1.symm).extBut b4.extBut D.i12).extBut b5.extBut D.TOi1.symm
  have u2 : g5.IsTupleIter i2 l2 (k2 + 1) := j2.extBut b5.extBut D.TOi2.symm
  have zl : z < g5.objs.size := Heap.lt_size z5
  show wpAny _ _ (Builtin.SmallTypes.ownedTupleHandOut (.ref z) (.ref g5.objs.size) >>= _) _ _ _; refine wpAny_bind ?_; unfold Builtin.SmallTypes.ownedTupleHandOut
  have z6 : IsZip (g5.push { cls := .type "tuple", data := .seq #[x, y] }) z p q .ellipsis := Heap.get?_push_of_some _ z5
  refine wpAny_bind (wpAny_setField_rec z6 (by simp) fun g7 z7 b7 => ?_); replace z7 : IsZip g7 z p q (rawInt g5.objs.size) := z7
  refine wpAny_setField_rec z7 (by simp) fun g8 z8 b8 => ?_; replace z8 : IsZip g8 z p q (rawInt g5.objs.size) := z8
  have up : ∀ c o, c ≠ z → g5.get? c = some o → g8.get? c = some o := fun c o c1 e => b8.extBut _ _ c1 (b7.extBut _ _ c1 (Heap.get?_push_of_some _ e))
  have w8 : IsPair g8 g5.objs.size x y := b8.extBut _ _ (Nat.ne_of_gt zl) (b7.extBut _ _ (Nat.ne_of_gt zl) (Heap.get?_push_size _ rfl))
  have s8 : g8.objs.size = g5.objs.size + 1 := by rw [b8.1, b7.1, Heap.size_push]
  rw [sz] at z8 w8 s8
  refine wpAny_pure ⟨_, rfl, wpAny_pure ?_⟩
  show R (some (.ref g5.objs.size)) _
  rw [sz]; exact hR g8 z8 (up _ _ D.TOz q5) (u1.at fun o e => up _ o D.i1z e) (u2.at fun o e => up _ o D.i2z e) w8 s8 fun c o c1 c2 c3 c4 e => up c o c1 (k5 c o c1 c2 c3 c4 e)
theorem zipT_end {z p q i1 i2 l1 l2 : Addr} {k1 : Nat} {xs : Array Value} {a b : Value} {R : Option Value → Shared → Prop} (hh : A.handled = none) (D : ZipApart z p q i1 i2 l1 l2) (hz : IsZip s.heap z p q .none) (hp : IsPair s.heap p (.ref i1) (.ref i2)) (hq : IsPair s.heap q a b)
    (h1 : s.heap.IsTupleIter i1 l1 k1) (t1 : s.heap.IsTuple l1 xs) (hx : xs[k1]? = none)
    (hR : ∀ g, (∀ c o, c ≠ z → c ≠ q → c ≠ i1 → c ≠ i2 → s.heap.get? c = some o → g.get? c = some o) → R none { s with heap := g }) : wpAny (model prog w) A (pyNext (.ref z)) R E s := by
  have hT : s.TypeIs (.ref z) "zip" := ⟨_, hz, rfl⟩
  unfold pyNext; refine wpAny_bind (wpAny_attempt (wpAny_callSpecial?_slot (name := Str.ofString "__next__") hT F.slot_zip_next (wpAny_call_entry F.slot_zip_next hT F.entry_zip_next ?_ (F.args_zip_next_1 _))))
  show wpAny _ _ (field (.ref z) 2 >>= _) _ _ s; refine wpAny_bind (wpAny_field hz rfl (x := .bool false) rfl ?_)
  show wpAny _ _ (field (.ref z) 3 >>= _) _ _ s; refine wpAny_bind (wpAny_field hz rfl (x := .ref p) rfl (wpAny_bind (wpAny_seqItems hp rfl ?_)))
  show wpAny _ _ (Builtin.SmallTypes.ownedTupleIsFree (.ref z) >>= _) _ _ s; refine wpAny_bind ?_; unfold Builtin.SmallTypes.ownedTupleIsFree
  refine wpAny_bind (wpAny_field hz rfl (x := .none) rfl (wpAny_pure ?_)); simp only [if_true]
  refine wpAny_bind (wpAny_rule (wpAny_bind (wpAny_field hz rfl (x := .ref q) rfl (wpAny_bind (wpAny_setField_rec hz (by simp) fun g1 z1 b1 => ?_)))))
  replace z1 : IsZip g1 z p q .ellipsis := z1
  refine wpAny_bind ?_; simp only [List.zipIdx_cons, List.zipIdx_nil, List.forIn_cons, List.forIn_nil]; refine wpAny_bind (wpAny_bind (wpAny_onRaise ?_))
  show wpAny _ _ (Builtin.SmallTypes.nextOf (.ref i1) >>= _) _ _ _
  refine wpAny_bind (nextT_end (by first | exact hh | (show A.in1.handled = none; exact hh)) (h1.extBut b1.extBut D.i1z) (t1.extBut b1.extBut D.l1z) hx fun g2 e b2 he => ?_)
  obtain ⟨oe, hoe, ce⟩ := he
  have z2 : IsZip g2 z p q .ellipsis := b2 _ _ D.i1z.symm z1
  have ez : e ≠ z := fun y => by subst y; rw [z2] at hoe; cases hoe; simp at ce
  refine wpAny_setField_rec z2 (by simp) fun g3 _ b3 => wpAny_bind (wpAny_isInstance (T := "StopIteration") (b := true) ⟨oe, b3.extBut _ _ ez hoe, ce⟩ isSubtype_stop (wpAny_pure (hR g3 fun c o c1 _ c3 _ y => b3.extBut _ _ c1 (b2 _ _ c3 (b1.extBut _ _ c1 y)))))
end
def zh1 (h : Heap) (l : Addr) : Heap := h.push { cls := .type "tuple_iterator", data := .fields #[.ref l, .int 0 0] }
def zh2 (h : Heap) (l m : Addr) : Heap := (zh1 h l).push { cls := .type "tuple_iterator", data := .fields #[.ref m, .int 0 0] }
def zh3 (h : Heap) (l m : Addr) : Heap := (zh2 h l m).push { cls := .type "tuple", data := .seq #[.ref h.objs.size, .ref (zh1 h l).objs.size] }
def zh4 (h : Heap) (l m : Addr) : Heap := (zh3 h l m).push { cls := .type "tuple", data := .seq #[.none, .none] }
def zh5 (h : Heap) (l m : Addr) : Heap := (zh4 h l m).push { cls := .type "zip", data := .fields #[.none, .bool false, .bool false, .ref (zh2 h l m).objs.size, .ref (zh3 h l m).objs.size] }
theorem zipT_new (l m : Addr) (xs ys : Array Value) : Meets (Builtin.«zip.__new__» ⟨[.type "zip", .ref l, .ref m], []⟩) (fun _ R s => s.heap.IsTuple l xs ∧ s.heap.IsTuple m ys ∧ R (.ok (.ret (.ref (zh4 s.heap l m).objs.size))) { s with heap := zh5 s.heap l m }) :=
  .of_wp fun prog w A R s h => by
    obtain ⟨hp, g, d, tk, os⟩ := s; obtain ⟨hl1, hl2, h⟩ := h; have hsub := sub_zip
    have L1 : Heap.IsTuple (Shared.heap ⟨hp, g, d, tk, os⟩) l xs := hl1
    have L2 : Heap.IsTuple (Shared.heap ⟨hp.push { cls := .type "tuple_iterator", data := .fields #[.ref l, .int 0 0] }, g, d, tk, os⟩) m ys := Heap.IsTuple.push hl2 _
    wp_walk using wpAny_pyIter_tuple L1, wpAny_pyIter_tuple L2
    exact ⟨_, rfl, h⟩
section
variable {prog : Program} {w : World} {A : Around} {E : Value → Shared → Prop} {s : Shared}
theorem call_zipT {l m : Addr} {xs ys : Array Value} {R : Value → Shared → Prop} (t1 : s.heap.IsTuple l xs) (t2 : s.heap.IsTuple m ys)
    (h : ∀ g, IsZip g (s.heap.objs.size + 4) (s.heap.objs.size + 2) (s.heap.objs.size + 3) .none → IsPair g (s.heap.objs.size + 2) (.ref s.heap.objs.size) (.ref (s.heap.objs.size + 1)) → IsPair g (s.heap.objs.size + 3) .none .none →
      g.IsTupleIter s.heap.objs.size l 0 → g.IsTupleIter (s.heap.objs.size + 1) m 0 → (∀ c o, s.heap.get? c = some o → g.get? c = some o) → R (.ref (s.heap.objs.size + 4)) { s with heap := g }) : wpAny (model prog w) A (call (.type "zip") [.ref l, .ref m]) R E s := by
  refine callType_new F.called_zip (by decide) (F.typeCall_zip_2 _ _) (F.newCall_zip_2 _ _) (fun obj => F.args_object_init_3 obj _ _) F.entry_zip_new (zipT_new l m xs ys) ⟨t1, t2, ?_⟩
  have s1 : (zh1 s.heap l).objs.size = s.heap.objs.size + 1 := Heap.size_push ..
  have s2 : (zh2 s.heap l m).objs.size = s.heap.objs.size + 2 := by unfold zh2; rw [Heap.size_push, s1]
  have s3 : (zh3 s.heap l m).objs.size = s.heap.objs.size + 3 := by unfold zh3; rw [Heap.size_push, s2]
  have s4 : (zh4 s.heap l m).objs.size = s.heap.objs.size + 4 := by unfold zh4; rw [Heap.size_push, s3]
  have up : ∀ {c o}, (zh4 s.heap l m).get? c = some o → (zh5 s.heap l m).get? c = some o := fun e => Heap.get?_push_of_some _ e
  have up3 : ∀ {c o}, (zh3 s.heap l m).get? c = some o → (zh5 s.heap l m).get? c = some o := fun e => up (Heap.get?_push_of_some _ e)
  have up2 : ∀ {c o}, (zh2 s.heap l m).get? c = some o → (zh5 s.heap l m).get? c = some o := fun e => up3 (Heap.get?_push_of_some _ e)
  have up1 : ∀ {c o}, (zh1 s.heap l).get? c = some o → (zh5 s.heap l m).get? c = some o := fun e => up2 (Heap.get?_push_of_some _ e)
  have e5 : (zh5 s.heap l m).get? (zh4 s.heap l m).objs.size = some { cls := .type "zip", data := .fields #[.none, .bool false, .bool false, .ref (zh2 s.heap l m).objs.size, .ref (zh3 s.heap l m).objs.size] } := Heap.get?_push_size _ rfl
  have e4 : (zh5 s.heap l m).get? (zh3 s.heap l m).objs.size = some { cls := .type "tuple", data := .seq #[.none, .none] } := up (Heap.get?_push_size _ rfl)
  have e3 : (zh5 s.heap l m).get? (zh2 s.heap l m).objs.size = some { cls := .type "tuple", data := .seq #[.ref s.heap.objs.size, .ref (zh1 s.heap l).objs.size] } := up3 (Heap.get?_push_size _ rfl)
  have e2 : (zh5 s.heap l m).get? (zh1 s.heap l).objs.size = some { cls := .type "tuple_iterator", data := .fields #[.ref m, .int 0 0] } := up2 (Heap.get?_push_size _ rfl)
  have e1 : (zh5 s.heap l m).get? s.heap.objs.size = some { cls := .type "tuple_iterator", data := .fields #[.ref l, .int 0 0] } := up1 (Heap.get?_push_size _ rfl)
  show _ ∧ _
  rw [s2, s3, s4] at e5; rw [s1, s2] at e3; rw [s3] at e4; rw [s1] at e2; rw [s4]
  exact ⟨⟨_, e5, rfl⟩, h _ e5 e3 e4 ⟨_, e1, rfl, rfl⟩ ⟨_, e2, rfl, rfl⟩ fun c o x => up1 (Heap.get?_push_of_some _ x)⟩
end
def Ity (K : PySem.W.Frag) (l1 l2 : Addr) : It :=
  ⟨fun i H => ∃ xs ys x y, SqT K H l1 xs ∧ SqT K H l2 ys ∧ xs[i]? = some x ∧ ys[i]? = some y,
   fun i H v H' => ∃ T x y, H T = none ∧ v = .ref T ∧ H' = upd H T (.tup [x, y]) ∧ (∀ xs, SqT K H l1 xs → xs[i]? = some x) ∧ (∀ ys, SqT K H l2 ys → ys[i]? = some y),
   fun i H => ∃ xs, SqT K H l1 xs ∧ xs.length ≤ i⟩
def ZipTt (z p q i1 i2 l1 l2 : Addr) (i : Nat) (h : Heap) : Prop := ∃ a b, IsZip h z p q .none ∧ IsPair h p (.ref i1) (.ref i2) ∧ IsPair h q a b ∧ h.IsTupleIter i1 l1 i ∧ h.IsTupleIter i2 l2 i
theorem Inv.tup_inj {X : Cx} {pins : List (Addr × Obj)} {σ : St} {H : Hp} {s : Shared} {a : Addr} {xs ys : List V} (I : Inv X pins σ H s) (h1 : SqT X.K H a xs) (h2 : SqT X.K H a ys) : xs = ys := I.tuple_inj h1 h2
theorem turn_zipT {P : Program} {w : World} {K : PySem.W.Frag} {elts : List Expr} {x1 : Nat} {pos : Pos} {z p q i1 i2 l1 l2 : Addr} (D : ZipApart z p q i1 i2 l1 l2) :
    Turn P w K (.Tuple elts x1 pos) (Ity K l1 l2) [z, p, q, i1, i2] z (ZipTt z p q i1 i2 l1 l2) where
  mem := by simp
  obj := fun i h st b hb => by
    obtain ⟨a, b', hz, hp, hq, h1, h2⟩ := st
    simp only [List.mem_cons, List.not_mem_nil, or_false] at hb
    rcases hb with rfl | rfl | rfl | rfl | rfl
    · exact ⟨_, hz, fun v r => by cases r⟩
    · exact ⟨_, hp, fun v r => by cases r⟩
    · exact ⟨_, hq, fun v r => by cases r⟩
    · obtain ⟨o, e, c, d⟩ := h1; exact ⟨o, e, fun v r => by rw [d] at r; cases r⟩
    · obtain ⟨o, e, c, d⟩ := h2; exact ⟨o, e, fun v r => by rw [d] at r; cases r⟩
  keep := fun i h h' st k => by
    obtain ⟨a, b', hz, hp, hq, h1, h2⟩ := st
    exact ⟨a, b', k z (by simp) _ hz, k p (by simp) _ hp, k q (by simp) _ hq, h1.at fun o e => k i1 (by simp) o e, h2.at fun o e => k i2 (by simp) o e⟩
  item := by
    intro X hP hw hK hc i pins s σ H E I hf st hg
    subst hP hw hK
    obtain ⟨xs, ys, x, y, hq1, hq2, hx, hy⟩ := hg
    obtain ⟨a, b', hz, hp, hq, h1, h2⟩ := st
    obtain ⟨its1, rv1, p1, _⟩ := I.tuple hq1
    obtain ⟨its2, rv2, p2, _⟩ := I.tuple hq2
    obtain ⟨u1, hu1, ru1⟩ := rv1.get hx
    obtain ⟨u2, hu2, ru2⟩ := rv2.get hy
    refine zipT_next D hz hp hq h1 h2 p1 p2 (x := u1) (y := u2) (by simpa using hu1) (by simpa using hu2) fun g1 z1 t1 j1 j2 pr sz kk => ⟨_, rfl, ?_⟩
    refine wpAny_letOwnedTupleGo_zip z1 fun g2 z2 sb => ?_
    have lt : ∀ b ∈ [z, p, q, i1, i2], b ≠ s.heap.objs.size := fun b hb e => by
      have : ∃ o, s.heap.get? b = some o := by
        simp only [List.mem_cons, List.not_mem_nil, or_false] at hb
        rcases hb with rfl | rfl | rfl | rfl | rfl
        · exact ⟨_, hz⟩
        · exact ⟨_, hp⟩
        · exact ⟨_, hq⟩
        · obtain ⟨o, e, _⟩ := h1; exact ⟨o, e⟩
        · obtain ⟨o, e, _⟩ := h2; exact ⟨o, e⟩
      obtain ⟨o, r⟩ := this
      exact absurd (Heap.lt_size r) (by rw [e]; exact Nat.lt_irrefl _)
    have nz : ∀ {b : Addr}, b ≠ z → ∀ {o}, g1.get? b = some o → g2.get? b = some o := fun {b} hb {o} e => (sb.2 b hb).trans e
    have zT : s.heap.objs.size ≠ z := (lt z (by simp)).symm
    have hnT : H s.heap.objs.size = none := I.hok.fresh (Nat.le_refl _)
    have new : ObjOk X.prog X.w (upd H s.heap.objs.size (.tup [x, y])) g2 s.heap.objs.size (.tup [x, y]) := ⟨by show 2 ≤ sizeLine; decide, [u1, u2], .cons ru1 (.cons ru2 .nil), ⟨_, nz zT pr, rfl, _, rfl⟩⟩
    have I1 := Inv.turnedNew (h' := g2) (t' := s.toks) (ch := [z, p, q, i1, i2]) I hf (fun b o hb e => nz (by simp at hb; exact hb.1) (kk b o (by simp at hb; exact hb.1) (by simp at hb; exact hb.2.2.1) (by simp at hb; exact hb.2.2.2.1) (by simp at hb; exact hb.2.2.2.2) e)) (Nat.le_refl _) new
    refine ⟨.ref s.heap.objs.size, _, I1, rfl, ⟨_, x, y, hnT, rfl, rfl, fun zs hy' => by rw [I.tup_inj hy' hq1]; exact hx, fun zs hy' => by rw [I.tup_inj hy' hq2]; exact hy⟩, ⟨u1, u2, z2, ?_, ?_, ?_, ?_⟩, fun b hb => by rw [upd_ne (lt b hb)]; exact (hf b hb).1⟩
    · exact nz D.TIz (kk p _ D.TIz D.TITO D.TIi1 D.TIi2 hp)
    · exact nz D.TOz t1
    · exact j1.at fun o e => nz D.i1z e
    · exact j2.at fun o e => nz D.i2z e
  done := by
    intro X hP hw hK hc i pins s σ H E I hf st hg
    subst hP hw hK
    obtain ⟨xs, hq1, hl⟩ := hg
    obtain ⟨a, b', hz, hp, hq, h1, h2⟩ := st
    obtain ⟨its1, rv1, p1, _⟩ := I.tuple hq1
    have e1 := rv1.length
    refine zipT_end (I.ok.hd hc) D hz hp hq h1 p1 (by simp; omega) fun g1 kk => ⟨rfl, ?_⟩
    exact I.turnedL (t' := s.toks) (ch := [z, p, q, i1, i2]) hf (fun b o hb e => kk b o (by simp at hb; exact hb.1) (by simp at hb; exact hb.2.2.1) (by simp at hb; exact hb.2.2.2.1) (by simp at hb; exact hb.2.2.2.2) e)
  self := fun _ _ _ _ _ st h => by
    obtain ⟨a, b', hz, _⟩ := st
    exact wpAny_pyIter_zip hz h
section
variable {X : Cx}
def iZipU (K : PySem.W.Frag) (ta : TA) : TI := fun σ H R => ta σ H fun vs H1 => ∃ l1 l2 xs ys, vs = [.ref l1, .ref l2] ∧ H1 l1 = some (.tup xs) ∧ H1 l2 = some (.tup ys) ∧ R (Ity K l1 l2) H1
theorem pi_zipT {a b : Expr} {ta : TA} {p pos tpos : Pos} {elts : List Expr} {x1 : Nat} (hg : Gl X "zip") (hm : X.mg "zip" = none) (ha : PA X [a, b] ta) (hs : starEach [a, b] X.env = [(false, eval a X.env), (false, eval b X.env)] := by rfl)
    (hs2 : starEach [b] X.env = [(false, eval b X.env)] := by rfl) : PI X (.Tuple elts x1 tpos) (.Call (.Name "zip" p) [a, b] [] pos) (iZipU X.K ta) := by
  intro pins s σ H R I h
  refine Call_ (ld_blt I hg hm bt_zip (PyProof.Rows.callWith_type1 (thn (ha pos pins s σ H _ I h) fun us s1 ⟨vs, H1, I1, r1, q1⟩ => ?_) (by rw [hs, hs2]) (by rw [hs2]; rfl)))
  obtain ⟨l1, l2, xs, ys, e, e1, e2, r⟩ := q1
  subst e
  obtain ⟨u, w', rfl, ru, rw'⟩ := vals2 r1
  cases ru
  cases rw'
  obtain ⟨its1, rv1, p1, _⟩ := I1.tuple (.of e1)
  obtain ⟨its2, rv2, p2, _⟩ := I1.tuple (.of e2)
  have lt : ∀ {t : Addr} {its : Array Value}, s1.heap.IsTuple t its → t < s1.heap.objs.size := fun h => by obtain ⟨o, ho, _⟩ := h; exact Heap.lt_size ho
  refine call_zipT p1 p2 fun g hz hp hq hi1 hi2 kk => wpAny_pyIter_zip hz ?_
  have I2 : Inv X pins σ H1 { s1 with heap := g } := I1.kept (t' := s1.toks) kk
  refine ⟨_, _, _, _, H1, rfl, I2, turn_zipT (zipApart_new (n := s1.heap.objs.size) (lt p1) (lt p2)), ⟨_, _, hz, hp, hq, hi1, hi2⟩, fun b hb => ?_, r⟩
  have hb' : s1.heap.objs.size ≤ b := by
    simp only [List.mem_cons, List.not_mem_nil, or_false] at hb
    rcases hb with rfl | rfl | rfl | rfl | rfl <;> omega
  exact I1.fpOk hb' (I1.hok.fresh hb')
end
theorem forW_zipT {K : PySem.W.Frag} {l1 l2 : Addr} {xs ys : List V} {g : TG} {tb : TS} {D : Ends} {σ : St} {H : Hp} (Pv : Nat → St → Hp → Prop) (h0 : Pv 0 σ H) (hl : ∀ i σ H, Pv i σ H → H l1 = some (.tup xs) ∧ H l2 = some (.tup ys)) (he : xs.length = ys.length)
    (hs : ∀ i x y T σ H, xs[i]? = some x → ys[i]? = some y → Pv i σ H → H T = none → g (.ref T) σ (upd H T (.tup [x, y])) fun σ2 H2 => tb { D with nx := Pv (i + 1), ct := Pv (i + 1), bk := D.nx } σ2 H2) (hd : ∀ σ H, Pv xs.length σ H → D.nx σ H) :
    ∃ W : Nat → Nat → St → Hp → Prop, (∃ m, W 0 m σ H) ∧ ∀ i m σ H, W i m σ H →
      ((Ity K l1 l2).stop i H ∧ D.nx σ H) ∨ ((Ity K l1 l2).go i H ∧ ∃ N : St → Hp → Prop, (∀ σ' H', N σ' H' → ∃ m', m' < m ∧ W (i + 1) m' σ' H') ∧ ∀ x H', (Ity K l1 l2).yld i H x H' → g x σ H' fun σ2 H2 => tb { D with nx := N, ct := N, bk := D.nx } σ2 H2) := by
  refine ⟨fun i m σ H => m = xs.length - i ∧ i ≤ xs.length ∧ Pv i σ H, ⟨xs.length, by simp, Nat.zero_le _, h0⟩, ?_⟩
  rintro i m σ H ⟨rfl, hi, p⟩
  obtain ⟨q1, q2⟩ := hl i σ H p
  by_cases hlt : i < xs.length
  · refine .inr ⟨⟨xs, ys, xs[i], ys[i], .of q1, .of q2, by simp [hlt], by simp [he ▸ hlt]⟩, Pv (i + 1), fun σ' H' p' => ⟨xs.length - (i + 1), by omega, rfl, hlt, p'⟩, fun v H' y => ?_⟩
    obtain ⟨T, x, y, hT, rfl, rfl, y1, y2⟩ := y
    exact hs i x y T σ H (y1 xs (.of q1)) (y2 ys (.of q2)) p hT
  · have e : i = xs.length := by omega
    subst e
    exact .inl ⟨⟨xs, .of q1, Nat.le_refl _⟩, hd σ H p⟩
section
variable {X : Cx}
def rInD (K : PySem.W.Frag) : R2 := fun x y H Q => ∃ d es, RdD K H d x ∧ RdD K H (.tuple es) y ∧ d.canLay0 = true ∧ PyData.canLayAll0 es = true ∧ d.depth ≤ 60 ∧ Q (.bl (es.any fun e => PyData.eqv e d)) H
theorem op_inD (hu : X.A.units + 64 < cLine) : OpR X (compareOp .In) (rInD X.K) := by
  intro pins s σ H x y v u Q I rx ry h
  obtain ⟨d, es, hd, he, c1, c2, c3, q⟩ := h
  obtain ⟨as, ra⟩ := reads_of I d x v hd rx
  obtain ⟨bs, rb⟩ := reads_of I _ y u he ry
  exact SeqAt.in_tuple_reads rb ra c2 c1 (by omega) ⟨.bl _, H, I, rfl, q⟩
end
end L2
set_option Elab.async false
set_option linter.all false
set_option maxRecDepth 100000
set_option maxHeartbeats 4000000
namespace L2
open PySem PySem.Spec PyProof.Rows
open PySem.Builtin PySem.Builtin.Str
section
variable {X : Cx}
def rSplit : V → List V → Hp → VK → Prop := fun x vs H Q => ∃ a b, x = .str a ∧ vs = [.str b] ∧ (b.length == 0) = false ∧ a.length ≤ 1000 ∧ (Txt.split a b).length ≤ sizeLine ∧ ∀ D, H D = none → Q (.ref D) (upd H D (.lst ((Txt.split a b).map V.str)))
theorem strs_vals : ∀ (l : List Str) (t : Nat), Vals (l.map V.str) (strsFrom t l)
  | [], _ => .nil
  | x :: l, t => .cons ⟨_, rfl⟩ (strs_vals l (t + 1))
theorem mt_split : MtR X "str.split" rSplit := by
  intro pins s σ H x vs v us Q I rx rv h
  obtain ⟨a, b, rfl, rfl, hb, hz, hn, q⟩ := h
  obtain ⟨t, rfl⟩ := rx
  obtain ⟨u, rfl, t', rfl⟩ := vals1 rv
  have z1 : a.length ≤ sizeLine := Nat.le_trans hz (by decide)
  have q0 := q _ I.fresh
  unfold Txt.split at hn q0
  cases h1 : (decide (a.length < b.length) || decide (strKind a < strKind b)) with
  | true =>
    rw [h1, if_pos rfl] at q0
    exact call_meets F.slot_str_split (typeIs_str s a t) F.entry_str_split (F.args_str_split_2 _ _) (meets_str_split_cannot_occur a b t t' h1) ⟨.ref _, _, I.lnew (ys := [.str a]) (its := [.str a t]) (t' := s.toks) (.cons ⟨_, rfl⟩ .nil) (by show 1 ≤ sizeLine; decide), rfl, q0⟩
  | false =>
    rw [h1, if_neg (by decide)] at q0 hn
    cases h2 : (occurrences a b 0 a.length (a.length + 1)).isEmpty with
    | true =>
      rw [h2, if_pos rfl] at q0
      exact call_meets F.slot_str_split (typeIs_str s a t) F.entry_str_split (F.args_str_split_2 _ _) (meets_str_split_not_found a b t t' h1 hb h2) ⟨.ref _, _, I.lnew (ys := [.str a]) (its := [.str a t]) (t' := s.toks) (.cons ⟨_, rfl⟩ .nil) (by show 1 ≤ sizeLine; decide), rfl, q0⟩
    | false =>
      rw [h2, if_neg (by decide)] at q0 hn
      exact call_meets F.slot_str_split (typeIs_str s a t) F.entry_str_split (F.args_str_split_2 _ _) (meets_str_split_sep a b t t' h1 hb h2 z1 hn) ⟨.ref _, _, I.lnew (ys := (partsBetween a (occurrences a b 0 a.length (a.length + 1)) b.length).map V.str) (strs_vals _ s.toks) (by rw [List.length_map]; exact hn), rfl, q0⟩
def rStarts : V → List V → Hp → VK → Prop := fun x vs H Q => ∃ a b, x = .str a ∧ vs = [.str b] ∧ Q (.bl (Txt.startswith a b)) H
theorem mt_starts : MtR X "str.startswith" rStarts := by
  intro pins s σ H x vs v us Q I rx rv h
  obtain ⟨a, b, rfl, rfl, q⟩ := h
  obtain ⟨t, rfl⟩ := rx
  obtain ⟨u, rfl, t', rfl⟩ := vals1 rv
  exact call_gives F.slot_str_startswith (typeIs_str s a t) F.entry_str_startswith (F.args_str_startswith_2 _ _) (gives_str_startswith a b t t') ⟨.bl _, H, I, rfl, q⟩
def rIntT : List V → Hp → VK → Prop := fun xs H Q => ∃ a n, xs = [.str a] ∧ PySem.intText? a = some n ∧ a.length ≤ 640 ∧ Q (.int n) H
theorem call_intT : CallR X (.type "int") rIntT := by
  intro pins s σ H xs us Q I r h
  obtain ⟨a, n, rfl, e, hl, q⟩ := h
  obtain ⟨u, rfl, t, rfl⟩ := vals1 r
  exact PySem.W.KIN.call_text e hl ⟨.int n, H, I.tok _, ⟨_, rfl⟩, q⟩
def rSlS : V → Option Int → Option Int → Hp → VK → Prop := fun x lo hi H Q => ∃ a, x = .str a ∧ a.length ≤ sizeLine ∧ Q (.str (Txt.slice a lo hi)) H
theorem sl_str : SlR X rSlS := by
  intro pins s σ H x v vl vu lo hi sl Q I rx hs pl pu h
  obtain ⟨a, rfl, hz, q⟩ := h
  obtain ⟨t, rfl⟩ := rx
  have fin : ∀ t' k, EP X pins σ Q (.str (Txt.slice a lo hi) t') { s with toks := k } := fun t' k => ⟨.str _, H, I.tok _, ⟨_, rfl⟩, q⟩
  refine ⟨"str", _, F.slot_str_getitem.lookup, typeIs_str _ _ _, ?_⟩
  cases pl with
  | none =>
    cases pu with
    | none => exact wpAny_getItem_str_slice (l := none) (u := none) (st := none) hs rfl (post_val_or_str ⟨Nat.le_trans (Txt.slice_le a _ _) hz, fin⟩)
    | int j tj => exact wpAny_getItem_str_slice (l := none) (u := some (j, tj)) (st := none) hs rfl (post_val_or_str ⟨Nat.le_trans (Txt.slice_le a _ _) hz, fin⟩)
  | int i ti =>
    cases pu with
    | none => exact wpAny_getItem_str_slice (l := some (i, ti)) (u := none) (st := none) hs rfl (post_val_or_str ⟨Nat.le_trans (Txt.slice_le a _ _) hz, fin⟩)
    | int j tj => exact wpAny_getItem_str_slice (l := some (i, ti)) (u := some (j, tj)) (st := none) hs rfl (post_val_or_str ⟨Nat.le_trans (Txt.slice_le a _ _) hz, fin⟩)
def rMulS : R2 := fun x y H Q => ∃ a n, x = .str a ∧ y = .int n ∧ MulOk a n ∧ Q (.str (Txt.mul a n)) H
theorem op_mulS : OpR X (binaryOp .Mult) rMulS := by
  intro pins s σ H x y v u Q I rx ry h
  obtain ⟨a, n, rfl, rfl, hm, q⟩ := h
  obtain ⟨t, rfl⟩ := rx
  obtain ⟨t', rfl⟩ := ry
  exact SB.mul hm fun t2 k => ⟨.str _, H, I.tok _, ⟨_, rfl⟩, q⟩
end
def Ist (x : Str) : It := ⟨fun i _ => i < x.cps.size, fun i H v H' => H' = H ∧ ∃ c, x.cps[i]? = some c ∧ v = .str ⟨#[c]⟩, fun i _ => x.cps.size ≤ i⟩
theorem turn_ascii {P : Program} {w : World} {K : PySem.W.Frag} {tg : Expr} (x : Str) (t : Tok) (c0 : Addr) : Turn P w K tg (Ist x) [c0] c0 (fun i h => h.IsStrIter c0 "str_ascii_iterator" x t i) where
  mem := by simp
  obj := fun i h st b hb => by
    have e : b = c0 := by simpa using hb
    subst e
    obtain ⟨o, e, c, d⟩ := st
    exact ⟨o, e, fun v z => by rw [d] at z; cases z⟩
  keep := fun i h h' st k => by
    obtain ⟨o, e, r⟩ := st
    exact ⟨o, k c0 (by simp) o e, r⟩
  item := by
    intro X hP hw hK hc i pins s σ H E I hf st hg
    subst hP hw hK
    have hc' : x.cps[i]? = some x.cps[i] := Array.getElem?_eq_getElem hg
    obtain ⟨f0, f1, f2, f3, f4, f5⟩ := hf c0 (by simp)
    refine wpAny_pyNext_ascii_item st hc' fun g st' sb => ?_
    have I1 : Inv X pins σ H { s with heap := g, toks := s.toks + 1 } := I.turned (t' := s.toks + 1) (fun b o hb e => (sb.2 b hb).trans e) f0 f1 f3 f4 f5
    obtain ⟨o, e, c, d⟩ := id st'
    exact ⟨_, rfl, go_of (s := { s with heap := g, toks := s.toks + 1 }) e c d (by decide) ⟨.str ⟨#[x.cps[i]]⟩, H, I1, ⟨_, rfl⟩, ⟨rfl, _, hc', rfl⟩, st', fun b hb => (hf b hb).1⟩⟩
  done := by
    intro X hP hw hK hc i pins s σ H E I hf st hg
    subst hP hw hK
    obtain ⟨f0, f1, f2, f3, f4, f5⟩ := hf c0 (by simp)
    exact wpAny_pyNext_ascii_end (I.ok.hd hc) st (Array.getElem?_eq_none hg) fun g eb => ⟨rfl, I.turned (t' := s.toks) (fun b o hb e => eb b o hb e) f0 f1 f3 f4 f5⟩
  self := fun _ _ _ _ _ st h => wpAny_pyIter_striter_ascii st h
theorem turn_wide {P : Program} {w : World} {K : PySem.W.Frag} {tg : Expr} (x : Str) (t : Tok) (c0 : Addr) : Turn P w K tg (Ist x) [c0] c0 (fun i h => h.IsStrIter c0 "str_iterator" x t i) where
  mem := by simp
  obj := fun i h st b hb => by
    have e : b = c0 := by simpa using hb
    subst e
    obtain ⟨o, e, c, d⟩ := st
    exact ⟨o, e, fun v z => by rw [d] at z; cases z⟩
  keep := fun i h h' st k => by
    obtain ⟨o, e, r⟩ := st
    exact ⟨o, k c0 (by simp) o e, r⟩
  item := by
    intro X hP hw hK hc i pins s σ H E I hf st hg
    subst hP hw hK
    have hc' : x.cps[i]? = some x.cps[i] := Array.getElem?_eq_getElem hg
    obtain ⟨f0, f1, f2, f3, f4, f5⟩ := hf c0 (by simp)
    refine wpAny_pyNext_wide_item st hc' fun g st' sb => ?_
    have I1 : Inv X pins σ H { s with heap := g, toks := s.toks + 1 } := I.turned (t' := s.toks + 1) (fun b o hb e => (sb.2 b hb).trans e) f0 f1 f3 f4 f5
    obtain ⟨o, e, c, d⟩ := id st'
    exact ⟨_, rfl, go_of (s := { s with heap := g, toks := s.toks + 1 }) e c d (by decide) ⟨.str ⟨#[x.cps[i]]⟩, H, I1, ⟨_, rfl⟩, ⟨rfl, _, hc', rfl⟩, st', fun b hb => (hf b hb).1⟩⟩
  done := by
    intro X hP hw hK hc i pins s σ H E I hf st hg
    subst hP hw hK
    obtain ⟨f0, f1, f2, f3, f4, f5⟩ := hf c0 (by simp)
    exact wpAny_pyNext_wide_end (I.ok.hd hc) st (Array.getElem?_eq_none hg) fun g eb => ⟨rfl, I.turned (t' := s.toks) (fun b o hb e => eb b o hb e) f0 f1 f3 f4 f5⟩
  self := fun _ _ _ _ _ st h => wpAny_pyIter_striter_wide st h
section
variable {X : Cx} {tg : Expr}
def iStr (tl : TE) : TI := fun σ H R => tl σ H fun x H1 => ∃ a, x = .str a ∧ R (Ist a) H1
theorem pi_str {l : Expr} {tl : TE} (hl : PE X l tl) : PI X tg l (iStr tl) := by
  intro pins s σ H R I h
  refine thn (hl pins s σ H _ I h) fun v s1 ⟨x, H1, I1, r1, q1⟩ => ?_
  obtain ⟨a, rfl, q⟩ := q1
  obtain ⟨t, rfl⟩ := r1
  have fp : ∀ b ∈ [s1.heap.objs.size], FpOk X pins H1 b := fun b hb => by
    have e : b = s1.heap.objs.size := by simpa using hb
    subst e
    exact I1.fpOk (Nat.le_refl _) (I1.hok.fresh (Nat.le_refl _))
  cases ha : a.cps.all (· < 128) with
  | true =>
    refine wpAny_pyIter_ascii ha ?_
    exact ⟨s1.heap.objs.size, [s1.heap.objs.size], _, _, H1, rfl, I1.kept (t' := s1.toks) fun b o e => Heap.get?_push_of_some _ e, turn_ascii a t _, ⟨_, Heap.get?_push_size _ rfl, rfl, rfl⟩, fp, q⟩
  | false =>
    refine wpAny_pyIter_wide ha ?_
    exact ⟨s1.heap.objs.size, [s1.heap.objs.size], _, _, H1, rfl, I1.kept (t' := s1.toks) fun b o e => Heap.get?_push_of_some _ e, turn_wide a t _, ⟨_, Heap.get?_push_size _ rfl, rfl, rfl⟩, fp, q⟩
end
theorem forW_str {x : Str} {g : TG} {tb : TS} {D : Ends} {σ : St} {H : Hp} (Pv : Nat → St → Hp → Prop) (h0 : Pv 0 σ H)
    (hs : ∀ i c σ H, x.cps[i]? = some c → Pv i σ H → g (.str ⟨#[c]⟩) σ H fun σ2 H2 => tb { D with nx := Pv (i + 1), ct := Pv (i + 1), bk := D.nx } σ2 H2) (hd : ∀ σ H, Pv x.cps.size σ H → D.nx σ H) : ForW (Ist x) g tb D σ H := by
  refine ⟨fun i m σ H => m = x.cps.size - i ∧ i ≤ x.cps.size ∧ Pv i σ H, ⟨x.cps.size, by simp, Nat.zero_le _, h0⟩, ?_⟩
  rintro i m σ H ⟨rfl, hi, p⟩
  by_cases hlt : i < x.cps.size
  · refine .inr ⟨hlt, Pv (i + 1), fun σ' H' p' => ⟨x.cps.size - (i + 1), by omega, rfl, hlt, p'⟩, fun v H' y => ?_⟩
    obtain ⟨rfl, c, hc, rfl⟩ := y
    exact hs i c σ _ hc p
  · have e : i = x.cps.size := by omega
    subst e
    exact .inl ⟨Nat.le_refl _, hd σ H p⟩
theorem comp_str {x : Str} {D : Addr} {g : TG} {ti : TT} {te : TE} {σ' : St} {H : Hp} {Q : VK} (Pv : Nat → List V → Hp → Prop) (h0 : Pv 0 [] (upd H D (.lst [])))
    (hs : ∀ i ys H c, i < x.cps.size → x.cps[i]? = some c → Pv i ys H → g (.str ⟨#[c]⟩) σ' H fun σ4 H4 => ti σ4 H4 fun b H5 => if b = true then te σ4 H5 fun y H6 => CPut x.cps.size Pv D i y H6 else CSkip x.cps.size Pv i H5)
    (hd : ∀ ys H, Pv x.cps.size ys H → Q (.ref D) H) : CompW (Ist x) D g ti te σ' H Q := by
  refine comp_by x.cps.size Pv h0 (fun i ys H hi p => hi) (fun ys H p => Nat.le_refl _) (fun i ys H v H3 hi p y => ?_) hd
  obtain ⟨rfl, c, hc, rfl⟩ := y
  exact hs i ys _ c hi hc p
end L2
set_option Elab.async false
set_option linter.all false
set_option maxRecDepth 100000
set_option maxHeartbeats 4000000
namespace L2
open PySem PySem.Spec PyProof.Rows
section
variable {X : Cx}
theorem vals_bools : ∀ (bs : List Bool) (its : List Value), Vals (bs.map V.bl) its → its = bs.map Value.bool
  | [], its, h => by cases h; rfl
  | b :: bs, its, h => by
    cases h with
    | cons r t =>
      cases r
      rw [vals_bools bs _ t]
      rfl
def rAll : List V → Hp → VK → Prop := fun xs H Q => ∃ (p : Addr) (bs : List Bool), xs = [.ref p] ∧ H p = some (.lst (bs.map V.bl)) ∧ Q (.bl (bs.all id)) H
def rAny : List V → Hp → VK → Prop := fun xs H Q => ∃ (p : Addr) (bs : List Bool), xs = [.ref p] ∧ H p = some (.lst (bs.map V.bl)) ∧ Q (.bl (bs.any id)) H
theorem range_all (bs : List Bool) : ((List.range bs.length).all fun i => bs.getD i false) = bs.all id := by
  rw [Bool.eq_iff_iff, List.all_eq_true, List.all_eq_true]
  constructor
  · intro h b hb
    obtain ⟨i, hi, e⟩ := List.mem_iff_getElem.mp hb
    have := h i (List.mem_range.mpr hi)
    rw [List.getD_eq_getElem?_getD, List.getElem?_eq_getElem hi, e] at this
    exact this
  · intro h i hi
    have hi := List.mem_range.mp hi
    rw [List.getD_eq_getElem?_getD, List.getElem?_eq_getElem hi]
    exact h _ (List.getElem_mem _)
theorem range_any (bs : List Bool) : ((List.range bs.length).any fun i => bs.getD i false) = bs.any id := by
  rw [Bool.eq_iff_iff, List.any_eq_true, List.any_eq_true]
  constructor
  · rintro ⟨i, hi, h⟩
    have hi := List.mem_range.mp hi
    rw [List.getD_eq_getElem?_getD, List.getElem?_eq_getElem hi] at h
    exact ⟨_, List.getElem_mem _, h⟩
  · rintro ⟨b, hb, h⟩
    obtain ⟨i, hi, e⟩ := List.mem_iff_getElem.mp hb
    refine ⟨i, List.mem_range.mpr hi, ?_⟩
    rw [List.getD_eq_getElem?_getD, List.getElem?_eq_getElem hi, e]
    exact h
theorem call_all (hc : X.calm = true) : CallR X (.builtin "all") rAll := by
  intro pins s σ H xs us Q I r h
  obtain ⟨p, bs, rfl, hp, q⟩ := h
  obtain ⟨u, rfl, ru⟩ := vals1 r
  cases ru
  obtain ⟨its, rv, pl, hz⟩ := I.list (.of hp)
  have e := vals_bools bs its rv
  subst e
  have ne : p ≠ s.heap.objs.size := Nat.ne_of_lt pl.lt
  refine call_all_walk (wpAny_pyIter_list pl.isList ⟨s.heap.objs.size, _, _, _, _, _, fun i => bs.getD i false, rfl, Walks.list (show X.A.in1.handled = none from I.ok.hd hc) _ p ne (bs.map Value.bool).toArray, ⟨⟨_, Heap.get?_push_size _ rfl, rfl, rfl⟩, pl.isList.push _⟩, ?_, fun g tk kk => ?_⟩)
  · intro i v s' Q' E' hv hq
    have hv : (bs.map Value.bool)[i]? = some v := by simpa using hv
    rw [List.getElem?_map] at hv
    cases e : bs[i]? with
    | none => rw [e] at hv; cases hv
    | some b =>
      rw [e] at hv
      cases hv
      have hq : Q' (bs.getD i false) s' := hq
      rw [List.getD_eq_getElem?_getD, e] at hq
      exact wpAny_truthy_bool hq
  · have en : (bs.map Value.bool).toArray.size = bs.length := by simp
    rw [en, range_all]
    refine ⟨.bl _, H, I.kept (t' := tk) fun b o e => kk b o ?_ (Heap.get?_push_of_some _ e), rfl, q⟩
    intro z
    have z : b = s.heap.objs.size := by simpa using z
    exact absurd (Heap.lt_size e) (by rw [z]; exact Nat.lt_irrefl _)
theorem call_any (hc : X.calm = true) : CallR X (.builtin "any") rAny := by
  intro pins s σ H xs us Q I r h
  obtain ⟨p, bs, rfl, hp, q⟩ := h
  obtain ⟨u, rfl, ru⟩ := vals1 r
  cases ru
  obtain ⟨its, rv, pl, hz⟩ := I.list (.of hp)
  have e := vals_bools bs its rv
  subst e
  have ne : p ≠ s.heap.objs.size := Nat.ne_of_lt pl.lt
  refine call_any_walk (wpAny_pyIter_list pl.isList ⟨s.heap.objs.size, _, _, _, _, _, fun i => bs.getD i false, rfl, Walks.list (show X.A.in1.handled = none from I.ok.hd hc) _ p ne (bs.map Value.bool).toArray, ⟨⟨_, Heap.get?_push_size _ rfl, rfl, rfl⟩, pl.isList.push _⟩, ?_, fun g tk kk => ?_⟩)
  · intro i v s' Q' E' hv hq
    have hv : (bs.map Value.bool)[i]? = some v := by simpa using hv
    rw [List.getElem?_map] at hv
    cases e : bs[i]? with
    | none => rw [e] at hv; cases hv
    | some b =>
      rw [e] at hv
      cases hv
      have hq : Q' (bs.getD i false) s' := hq
      rw [List.getD_eq_getElem?_getD, e] at hq
      exact wpAny_truthy_bool hq
  · have en : (bs.map Value.bool).toArray.size = bs.length := by simp
    rw [en, range_any]
    refine ⟨.bl _, H, I.kept (t' := tk) fun b o e => kk b o ?_ (Heap.get?_push_of_some _ e), rfl, q⟩
    intro z
    have z : b = s.heap.objs.size := by simpa using z
    exact absurd (Heap.lt_size e) (by rw [z]; exact Nat.lt_irrefl _)
theorem bt_all : bootBuiltins "all" = some (.builtin "all") := by decide +kernel
theorem bt_any : bootBuiltins "any" = some (.builtin "any") := by decide +kernel
def rIsiXs (K : PySem.W.Frag) : List V → Hp → VK → Prop := fun xs H Q => ∃ (a D tp : Addr) (cs : List Addr) (b : Bool), xs = [.ref a, .ref tp] ∧ H a = some (excO a D) ∧ XI K D ∧ H tp = some (.tup (cs.map V.ref)) ∧ PySem.W.kitAny K (.ref D) (cs.map Value.ref) = some b ∧ Q (.bl b) H
theorem vals_refs : ∀ (cs : List Addr) (its : List Value), Vals (cs.map V.ref) its → its = cs.map Value.ref
  | [], its, h => by cases h; rfl
  | b :: cs, its, h => by
    cases h with
    | cons r t =>
      cases r
      rw [vals_refs cs _ t]
      rfl
theorem call_isiXs {K : PySem.W.Frag} (hK : X.K = K) : CallR X (.builtin "isinstance") (rIsiXs K) := by
  subst hK
  intro pins s σ H xs us Q I r h
  obtain ⟨a, D, tp, cs, b, rfl, ha, F, ht, e, q⟩ := h
  obtain ⟨u, u2, rfl, ru, ru2⟩ := vals2 r
  cases ru
  cases ru2
  obtain ⟨its, rv, pl, hz⟩ := I.tuple (.of ht)
  have e2 := vals_refs cs its rv
  subst e2
  obtain ⟨⟨cls, dd, data, sl⟩, ho, hcl, n, hd⟩ := pl
  simp only at hcl hd
  subst hcl hd
  exact PySem.W.kia_tup (kitx_exc F) I.kIn (I.hok a _ ha).1 ho e (by intro z; cases z) fun tk => ⟨.bl b, H, I.tok tk, rfl, q⟩
theorem pe_globS {x : Str} {y : Str} {pos : Pos} (hg : Gl X x) (h : ∃ t, X.mg x = some (.str y t)) (hd : (x == ("__debug__" : Str)) = false := by decide) : PE X (.Name x pos) (tC (.str y)) := by
  obtain ⟨t, e⟩ := h
  exact pe_glob hg e ⟨t, rfl⟩ hd
theorem pe_globI {x : Str} {y : Int} {pos : Pos} (hg : Gl X x) (h : ∃ t, X.mg x = some (.int y t)) (hd : (x == ("__debug__" : Str)) = false := by decide) : PE X (.Name x pos) (tC (.int y)) := by
  obtain ⟨t, e⟩ := h
  exact pe_glob hg e ⟨t, rfl⟩ hd
end
section
variable {P : Program} {w : World} {K : PySem.W.Frag} {mg : Str → Option Value} {base : Heap} {N : List Str} {qual : Str} {scope : Scope} {f : Addr} {cd : Value} {A : Around} {outer : List Env} {s₀ : Shared} {H₀ : Hp} {E : XK}
theorem pass_cx : Passes (CXr P w) (cxOf (CXr P w) P w K mg base N qual scope f cd A outer s₀ H₀ E) E := by
  intro pins σ H s e s' I hx
  obtain ⟨ea, cls, H', rfl, hos, hbare, F, hE⟩ := hx
  obtain ⟨un, new, B, a0, fl, hok, hb1, hb2⟩ := F
  have old : ∀ b o, s₀.heap.get? b = some o → b ∉ frs outer → b ∉ frs (envOfC qual scope s₀.heap.objs.size f cd :: outer) := fun b o q n z => by
    rcases List.mem_cons.mp (I.stkSub b z) with r | r
    · exact absurd (Heap.lt_size q) (by rw [r]; exact Nat.not_lt.mpr I.ok.above)
    · exact n r
  have xn : ∀ b, b ∉ (cxOf (CXr P w) P w K mg base N qual scope f cd A outer s₀ H₀ E).ex := fun b z => absurd (show b ∈ ([] : List Addr) from z) (by simp)
  have data : ∀ b o, s.heap.get? b = some o → b ∈ frs outer → ∀ ws, o.data ≠ .fields ws := fun b o q z => by
    obtain ⟨_, o', q', d⟩ := I.funs.mem z
    rw [q] at q'; cases q'
    exact d
  have inn : ∀ b, b ∈ frs outer → b ∈ frs (envOfC qual scope s₀.heap.objs.size f cd :: outer) := fun b hb => by
    obtain ⟨v, hv, r⟩ := List.mem_filterMap.mp hb
    exact List.mem_filterMap.mpr ⟨v, List.mem_cons_of_mem _ hv, r⟩
  have free0 : ∀ b, b ∈ frs outer → H b = none := fun b hb => I.stkFree b (inn b hb)
  have slot : ∀ b o g, s.heap.get? b = some o → b ∈ frs outer → s'.heap.UpToSlots g → ∃ sl, g.get? b = some { o with slots := sl } := fun b o g q hb up => by
    obtain ⟨sl, q1⟩ := un.slot b o q (free0 b hb) (inn b hb) (by simp)
    obtain ⟨sl', q2⟩ := up b _ q1 (data b o q hb)
    exact ⟨sl', q2⟩
  refine wpAny_leaves_onW (base := B) I.ok.frames rfl fl fun g x1 up => ?_
  refine ⟨ea, cls, H', rfl, hos.trans I.os, hbare, ⟨⟨fun b o q n hb _ => ?_, fun b o q n hb _ => ?_, fun b o q n _ => ?_, fun b o q _ => ?_, fun b xs q => un.tups b xs (I.base.tups b xs q), fun b o u q => un.frzs b o u (I.base.frzs b o u q), fun b ps q => ?_⟩, ?_, B, a0, x1, hok, fun b o q n hb => ?_, fun b o q hb => ?_⟩, hE⟩
  · exact x1.1 b o (hb1 b o (I.base.keep b o q n hb (xn b)) (I.base.free b o q n (xn b)) (old b o q hb))
  · obtain ⟨sl, q1⟩ := I.base.slot b o q n hb (xn b)
    obtain ⟨sl2, q2⟩ := slot b _ g q1 hb up
    exact ⟨sl2, q2⟩
  · by_cases hb : b ∈ frs outer
    · obtain ⟨sl, q1⟩ := I.base.slot b o q n hb (xn b)
      exact un.free b _ q1 (free0 b hb) (by simp)
    · exact un.free b o (I.base.keep b o q n hb (xn b)) (I.base.free b o q n (xn b)) (by simp)
  · obtain ⟨o', q1⟩ := I.base.there b o q (xn b)
    by_cases hb : b ∈ frs outer
    · obtain ⟨sl, q2⟩ := slot b o' g q1 hb up
      exact ⟨_, q2⟩
    · obtain ⟨o2, q2⟩ := hb2 b o' q1 (old b o q hb)
      exact ⟨o2, x1.1 b o2 q2⟩
  · obtain ⟨more, q1⟩ := I.base.tbls b ps q
    obtain ⟨more2, q2⟩ := un.tbls b _ q1
    exact ⟨more ++ more2, by rw [q2]; simp⟩
  · cases q : s₀.heap.get? ea with
    | none => rfl
    | some o =>
      obtain ⟨o', q1⟩ := I.base.there ea o q (xn ea)
      rw [new] at q1; cases q1
  · exact hb1 b o (I.base.keep b o q n hb (xn b)) (I.base.free b o q n (xn b)) (old b o q hb)
  · obtain ⟨o', q1⟩ := I.base.there b o q (xn b)
    exact hb2 b o' q1 (old b o q hb)
end
end L2
set_option Elab.async false
set_option linter.all false
set_option maxRecDepth 100000
set_option maxHeartbeats 4000000
namespace My
def G (a b : Int) : Int := (Int.gcd a b : Nat)
theorem G_nonneg (a b : Int) : 0 ≤ G a b := Int.natCast_nonneg _
theorem G_dvd_left (a b : Int) : G a b ∣ a := Int.gcd_dvd_left a b
theorem G_dvd_right (a b : Int) : G a b ∣ b := Int.gcd_dvd_right a b
theorem G_abs (a b : Int) : G (if a < 0 then -a else a) (if b < 0 then -b else b) = G a b := by
  unfold G
  split <;> split <;> simp [Int.gcd_neg, Int.neg_gcd]
theorem G_zero {a b : Int} (h : 0 ≤ a) (hb : b = 0) : a = G a b := by
  subst hb
  unfold G
  rw [Int.gcd_zero_right]
  omega
theorem G_mod (a b : Int) (hb : 0 < b) : G b (Int.fmod a b) = G a b := by
  unfold G
  rw [Int.fmod_eq_emod_of_nonneg a (Int.le_of_lt hb), Int.gcd_comm a b]
  have e : a % b + a / b * b = a := by rw [Int.mul_comm]; exact Int.emod_add_mul_ediv a b
  rw [← Int.gcd_add_mul_right_right b (a % b) (a / b), e]
theorem turn {c a b : Int} (h : G a b = c) (hb : 0 < b) : 0 ≤ b ∧ 0 ≤ Int.fmod a b ∧ G b (Int.fmod a b) = c :=
  ⟨Int.le_of_lt hb, Int.fmod_nonneg_of_pos a hb, by rw [G_mod a b hb, h]⟩
theorem less {a b : Int} (hb : 0 < b) : (Int.fmod a b).toNat < b.toNat := by
  have h0 := Int.fmod_nonneg_of_pos a hb
  have h1 := Int.fmod_lt_of_pos a hb
  omega
theorem fdiv_G_left (a b : Int) : Int.fdiv a (G a b) * G a b = a := by
  rw [Int.fdiv_eq_ediv_of_nonneg _ (G_nonneg a b)]
  exact Int.ediv_mul_cancel (G_dvd_left a b)
theorem fdiv_G_right (a b : Int) : Int.fdiv b (G a b) * G a b = b := by
  rw [Int.fdiv_eq_ediv_of_nonneg _ (G_nonneg a b)]
  exact Int.ediv_mul_cancel (G_dvd_right a b)
theorem fmod_G_left (a b : Int) : Int.fmod a (G a b) = 0 := by
  rw [Int.fmod_eq_emod_of_nonneg _ (G_nonneg a b)]
  exact Int.emod_eq_zero_of_dvd (G_dvd_left a b)
theorem fmod_G_right (a b : Int) : Int.fmod b (G a b) = 0 := by
  rw [Int.fmod_eq_emod_of_nonneg _ (G_nonneg a b)]
  exact Int.emod_eq_zero_of_dvd (G_dvd_right a b)
theorem G_div (a b : Int) (h : G a b ≠ 0) : G (Int.fdiv a (G a b)) (Int.fdiv b (G a b)) = 1 := by
  rw [Int.fdiv_eq_ediv_of_nonneg _ (G_nonneg a b), Int.fdiv_eq_ediv_of_nonneg _ (G_nonneg a b)]
  have hp : 0 < Int.gcd a b := by
    unfold G at h; omega
  unfold G
  rw [Int.gcd_ediv_gcd_ediv_gcd hp]
  rfl
theorem G_eq_zero {a b : Int} (h : G a b = 0) : a = 0 ∧ b = 0 := by
  unfold G at h
  have : Int.gcd a b = 0 := by omega
  exact Int.gcd_eq_zero_iff.mp this
end My
namespace My
def fac (t b : Int) : Int := if b < 0 then -G t b else G t b
def frT (t b : Int) : Int := t.fdiv (fac t b)
def frB (t b : Int) : Int := b.fdiv (fac t b)
theorem G_pos {t b : Int} (h : b ≠ 0) : 0 < G t b := by
  have h0 := G_nonneg t b
  rcases Int.lt_or_eq_of_le h0 with h1 | h1
  · exact h1
  · exact absurd (G_eq_zero h1.symm).2 h
theorem fac_ne {t b : Int} (h : b ≠ 0) : fac t b ≠ 0 := by
  have := G_pos (t := t) h
  unfold fac; split <;> omega
theorem fac_dvd_left (t b : Int) : fac t b ∣ t := by
  unfold fac; split
  · exact Int.neg_dvd.mpr (G_dvd_left t b)
  · exact G_dvd_left t b
theorem fac_dvd_right (t b : Int) : fac t b ∣ b := by
  unfold fac; split
  · exact Int.neg_dvd.mpr (G_dvd_right t b)
  · exact G_dvd_right t b
theorem fdiv_of_dvd {a b : Int} (h : b ∣ a) : a.fdiv b * b = a := by
  have e := Int.fmod_add_mul_fdiv a b
  have z : a.fmod b = 0 := Int.fmod_eq_zero_of_dvd h
  rw [z] at e
  rw [Int.mul_comm]
  omega
theorem frT_mul (t b : Int) : frT t b * fac t b = t := fdiv_of_dvd (fac_dvd_left t b)
theorem frB_mul (t b : Int) : frB t b * fac t b = b := fdiv_of_dvd (fac_dvd_right t b)
theorem natAbs_le_of_mul {x f y : Int} (e : x * f = y) (hf : f ≠ 0) : x.natAbs ≤ y.natAbs := by
  rw [← e, Int.natAbs_mul]
  exact Nat.le_mul_of_pos_right _ (by omega)
theorem frT_le {t b : Int} (h : b ≠ 0) : (frT t b).natAbs ≤ t.natAbs := natAbs_le_of_mul (frT_mul t b) (fac_ne h)
theorem frB_le {t b : Int} (h : b ≠ 0) : (frB t b).natAbs ≤ b.natAbs := natAbs_le_of_mul (frB_mul t b) (fac_ne h)
theorem fac_le {t b : Int} (h : b ≠ 0) : (fac t b).natAbs ≤ b.natAbs := by
  have e := frB_mul t b
  have hz : frB t b ≠ 0 := by intro z; rw [z] at e; omega
  rw [Int.mul_comm] at e
  exact natAbs_le_of_mul e hz
theorem pos_of_mul {x f y : Int} (e : x * f = y) (h : (0 < f ∧ 0 < y) ∨ (f < 0 ∧ y < 0)) : 0 < x := by
  rcases (by omega : 0 < x ∨ x = 0 ∨ x < 0) with hx | hx | hx
  · exact hx
  · rw [hx, Int.zero_mul] at e; omega
  · exfalso
    rcases h with ⟨h1, h2⟩ | ⟨h1, h2⟩
    · have := Int.mul_neg_of_neg_of_pos hx h1; omega
    · have := Int.mul_pos_of_neg_of_neg hx h1; omega
theorem frB_pos {t b : Int} (h : b ≠ 0) : 0 < frB t b := by
  refine pos_of_mul (frB_mul t b) ?_
  have := G_pos (t := t) h
  unfold fac
  split
  · exact .inr ⟨by omega, by omega⟩
  · exact .inl ⟨by omega, by omega⟩
theorem cross (t b : Int) (_h : b ≠ 0) : frT t b * b = t * frB t b := by
  have e1 := frT_mul t b
  have e2 := frB_mul t b
  calc frT t b * b = frT t b * (frB t b * fac t b) := by rw [e2]
    _ = (frT t b * fac t b) * frB t b := by rw [Int.mul_comm (frB t b), Int.mul_assoc]
    _ = t * frB t b := by rw [e1]
theorem gcd_of_mul {x y f t b : Int} (e1 : x * f = t) (e2 : y * f = b) (hb : b ≠ 0) (hf : f.natAbs = Int.gcd t b) : Int.gcd x y = 1 := by
  have hp : 0 < Int.gcd t b := by
    have h : Int.gcd t b ≠ 0 := by intro z; exact hb (Int.gcd_eq_zero_iff.mp z).2
    omega
  have e : Int.gcd (x * f) (y * f) = Int.gcd x y * f.natAbs := Int.gcd_mul_right x f y
  rw [e1, e2, hf] at e
  have e' : 1 * Int.gcd t b = Int.gcd x y * Int.gcd t b := by omega
  exact (Nat.eq_of_mul_eq_mul_right hp e').symm
theorem fac_abs (t b : Int) : (fac t b).natAbs = Int.gcd t b := by
  unfold fac G; split <;> simp
theorem G_fr {t b : Int} (h : b ≠ 0) : G (frT t b) (frB t b) = 1 := by
  unfold G
  rw [gcd_of_mul (frT_mul t b) (frB_mul t b) h (fac_abs t b)]
  rfl
structure Low (n : Nat) (a b : Int) : Prop where
  pos : 0 < b
  one : G a b = 1
  la : a.natAbs < 2 ^ n
  lb : b.natAbs < 2 ^ n
theorem Low.ne {n : Nat} {a b : Int} (h : Low n a b) : b ≠ 0 := by have := h.pos; omega
theorem low_fr {n : Nat} {t b : Int} (h : b ≠ 0) (ht : t.natAbs < 2 ^ n) (hb : b.natAbs < 2 ^ n) : Low n (frT t b) (frB t b) :=
  ⟨frB_pos h, G_fr h, Nat.lt_of_le_of_lt (frT_le h) ht, Nat.lt_of_le_of_lt (frB_le h) hb⟩
theorem mul_lt {a b : Int} {m n : Nat} (h1 : a.natAbs < 2 ^ m) (h2 : b.natAbs < 2 ^ n) : (a * b).natAbs < 2 ^ (m + n) := by
  rw [Int.natAbs_mul, Nat.pow_add]
  exact Nat.mul_lt_mul'' h1 h2
theorem add_lt {a b : Int} {m : Nat} (h1 : a.natAbs < 2 ^ m) (h2 : b.natAbs < 2 ^ m) : (a + b).natAbs < 2 ^ (m + 1) := by
  rw [Nat.pow_succ]; omega
theorem sub_lt {a b : Int} {m : Nat} (h1 : a.natAbs < 2 ^ m) (h2 : b.natAbs < 2 ^ m) : (a - b).natAbs < 2 ^ (m + 1) := by
  rw [Nat.pow_succ]; omega
theorem lt_mono {a : Int} {m n : Nat} (h : a.natAbs < 2 ^ m) (hm : m ≤ n) : a.natAbs < 2 ^ n := Nat.lt_of_lt_of_le h (Nat.pow_le_pow_right (by decide) hm)
end My
namespace My
theorem G_lt {x y : Int} {n : Nat} (hx : x.natAbs < 2 ^ n) (hy : y.natAbs < 2 ^ n) : (G x y).natAbs < 2 ^ n := by
  have e : (G x y).natAbs = Nat.gcd x.natAbs y.natAbs := by unfold G; rw [Int.natAbs_natCast]; rfl
  rw [e]
  by_cases h : x.natAbs = 0
  · rw [h, Nat.gcd_zero_left]; exact hy
  · exact Nat.lt_of_le_of_lt (Nat.le_of_dvd (by omega) (Nat.gcd_dvd_left _ _)) hx
end My
namespace My
def numBy (c : Int) : Int :=
  if c % 5 = 0 then (c / 5 * 982451653) % (2 * 10 ^ 60 + 1) - 10 ^ 60
  else if c % 5 = 1 then c / 5 % 2001 - 1000
  else c / 5 % 13 - 6
theorem numBy_in (c : Int) : -(10 ^ 60) ≤ numBy c ∧ numBy c ≤ 10 ^ 60 := by
  unfold numBy
  split
  · omega
  · split <;> omega
theorem numBy_lt (c : Int) : (numBy c).natAbs < 2 ^ 200 := by
  have h := numBy_in c
  have e : (10 : Int) ^ 60 < 2 ^ 200 := by decide
  have e2 : ((2 ^ 200 : Nat) : Int) = 2 ^ 200 := by decide
  omega
end My
namespace My
def g3 (a b c : Int) : Nat := Nat.gcd (Nat.gcd a.natAbs b.natAbs) c.natAbs
theorem G_nat (a b : Int) : (G a b).natAbs = Nat.gcd a.natAbs b.natAbs := by unfold G; rw [Int.natAbs_natCast]; rfl
theorem G3 (a b c : Int) : G (G a b) c = (g3 a b c : Int) := by
  have h : (G (G a b) c).natAbs = g3 a b c := by rw [G_nat, G_nat]; rfl
  have h0 := G_nonneg (G a b) c
  omega
theorem g3_turn (a b c : Int) : g3 c a b = g3 a b c := by
  unfold g3
  rw [Nat.gcd_assoc, Nat.gcd_comm]
theorem g3_mul (a b c f : Int) : g3 (a * f) (b * f) (c * f) = g3 a b c * f.natAbs := by
  unfold g3
  rw [Int.natAbs_mul, Int.natAbs_mul, Int.natAbs_mul, Nat.gcd_mul_right, Nat.gcd_mul_right]
theorem g3_pos {a b c : Int} (h : c ≠ 0) : 0 < g3 a b c := by
  unfold g3
  exact Nat.gcd_pos_of_pos_right _ (by omega)
theorem g3_da (a b c : Int) : ((g3 a b c : Nat) : Int) ∣ a := Int.ofNat_dvd_left.mpr (Nat.dvd_trans (Nat.gcd_dvd_left _ _) (Nat.gcd_dvd_left _ _))
theorem g3_db (a b c : Int) : ((g3 a b c : Nat) : Int) ∣ b := Int.ofNat_dvd_left.mpr (Nat.dvd_trans (Nat.gcd_dvd_left _ _) (Nat.gcd_dvd_right _ _))
theorem g3_dc (a b c : Int) : ((g3 a b c : Nat) : Int) ∣ c := Int.ofNat_dvd_left.mpr (Nat.gcd_dvd_right _ _)
structure Pt (n : Nat) (x y w : Int) : Prop where
  pos : 0 < w
  one : g3 x y w = 1
  lx : x.natAbs < 2 ^ n
  ly : y.natAbs < 2 ^ n
  lw : w.natAbs < 2 ^ n
theorem Pt.ne {n : Nat} {x y w : Int} (h : Pt n x y w) : w ≠ 0 := by have := h.pos; omega
theorem Pt.mono {m n : Nat} {x y w : Int} (h : Pt m x y w) (hm : m ≤ n) : Pt n x y w := ⟨h.pos, h.one, lt_mono h.lx hm, lt_mono h.ly hm, lt_mono h.lw hm⟩
theorem pt_of {n : Nat} {x y w f : Int} (hf : f.natAbs = g3 x y w) (hs : (0 < f ∧ 0 < w) ∨ (f < 0 ∧ w < 0)) (lx : x.natAbs < 2 ^ n) (ly : y.natAbs < 2 ^ n) (lw : w.natAbs < 2 ^ n) : Pt n (x.fdiv f) (y.fdiv f) (w.fdiv f) := by
  have hd : ∀ z : Int, ((g3 x y w : Nat) : Int) ∣ z → f ∣ z := fun z h => by
    rw [← hf] at h
    exact Int.natAbs_dvd.mp h
  have ex := fdiv_of_dvd (hd x (g3_da x y w))
  have ey := fdiv_of_dvd (hd y (g3_db x y w))
  have ew := fdiv_of_dvd (hd w (g3_dc x y w))
  have hw : w ≠ 0 := by omega
  have fn : f ≠ 0 := by omega
  refine ⟨pos_of_mul ew hs, ?_, Nat.lt_of_le_of_lt (natAbs_le_of_mul ex fn) lx, Nat.lt_of_le_of_lt (natAbs_le_of_mul ey fn) ly, Nat.lt_of_le_of_lt (natAbs_le_of_mul ew fn) lw⟩
  have e := g3_mul (x.fdiv f) (y.fdiv f) (w.fdiv f) f
  rw [ex, ey, ew, hf] at e
  have hp := g3_pos (a := x) (b := y) hw
  have e' : 1 * g3 x y w = g3 (x.fdiv f) (y.fdiv f) (w.fdiv f) * g3 x y w := by omega
  exact (Nat.eq_of_mul_eq_mul_right hp e').symm
def fac3 (x y w : Int) : Int := if w < 0 then -G (G w x) y else G (G w x) y
theorem fac3_abs (x y w : Int) : (fac3 x y w).natAbs = g3 x y w := by
  unfold fac3
  rw [G3, g3_turn]
  split <;> simp
theorem fac3_sign {x y w : Int} (h : w ≠ 0) : (0 < fac3 x y w ∧ 0 < w) ∨ (fac3 x y w < 0 ∧ w < 0) := by
  unfold fac3
  have hp := g3_pos (a := x) (b := y) h
  rw [G3, g3_turn]
  split
  · exact .inr ⟨by omega, by omega⟩
  · exact .inl ⟨by omega, by omega⟩
theorem fac3_ne {x y w : Int} (h : w ≠ 0) : fac3 x y w ≠ 0 := by rcases fac3_sign (x := x) (y := y) h with z | z <;> omega
theorem fac3_dvd (x y w z : Int) (h : ((g3 x y w : Nat) : Int) ∣ z) : fac3 x y w ∣ z := by
  rw [← fac3_abs] at h
  exact Int.natAbs_dvd.mp h
theorem fac3_le {x y w : Int} (h : w ≠ 0) : (fac3 x y w).natAbs ≤ w.natAbs := by
  rw [fac3_abs]
  exact Nat.le_of_dvd (by omega) (Nat.gcd_dvd_right _ _)
def ptX (x y w : Int) : Int := x.fdiv (fac3 x y w)
def ptY (x y w : Int) : Int := y.fdiv (fac3 x y w)
def ptW (x y w : Int) : Int := w.fdiv (fac3 x y w)
theorem pt_mk {n : Nat} {x y w : Int} (h : w ≠ 0) (lx : x.natAbs < 2 ^ n) (ly : y.natAbs < 2 ^ n) (lw : w.natAbs < 2 ^ n) : Pt n (ptX x y w) (ptY x y w) (ptW x y w) := pt_of (fac3_abs x y w) (fac3_sign h) lx ly lw
theorem ptX_mul (x y w : Int) : ptX x y w * fac3 x y w = x := fdiv_of_dvd (fac3_dvd _ _ _ _ (g3_da x y w))
theorem ptY_mul (x y w : Int) : ptY x y w * fac3 x y w = y := fdiv_of_dvd (fac3_dvd _ _ _ _ (g3_db x y w))
theorem ptW_mul (x y w : Int) : ptW x y w * fac3 x y w = w := fdiv_of_dvd (fac3_dvd _ _ _ _ (g3_dc x y w))
theorem cross_of {a b f x w : Int} (e1 : a * f = x) (e2 : b * f = w) : a * w = x * b := by
  rw [← e1, ← e2, Int.mul_comm b f, Int.mul_assoc]
theorem ptX_cross (x y w : Int) : ptX x y w * w = x * ptW x y w := cross_of (ptX_mul x y w) (ptW_mul x y w)
theorem ptY_cross (x y w : Int) : ptY x y w * w = y * ptW x y w := cross_of (ptY_mul x y w) (ptW_mul x y w)
end My
namespace My
theorem g3_gt {x y w : Int} (hw : 0 < w) : 0 < G (G x y) w := by
  rw [G3]
  have := g3_pos (a := x) (b := y) (c := w) (by omega)
  omega
theorem g3_ne {x y w : Int} (hw : 0 < w) : G (G x y) w ≠ 0 := by have := g3_gt (x := x) (y := y) hw; omega
theorem g3_abs (x y w : Int) : (G (G x y) w).natAbs = g3 x y w := by rw [G3]; simp
theorem g3_lt {n : Nat} {x y w : Int} (hw : 0 < w) (lw : w.natAbs < 2 ^ n) : (G (G x y) w).natAbs < 2 ^ n := by
  rw [g3_abs]
  exact Nat.lt_of_le_of_lt (Nat.le_of_dvd (by omega) (Nat.gcd_dvd_right _ _)) lw
theorem g3_pt {n : Nat} {x y w : Int} (hw : 0 < w) (lx : x.natAbs < 2 ^ n) (ly : y.natAbs < 2 ^ n) (lw : w.natAbs < 2 ^ n) : Pt n (x.fdiv (G (G x y) w)) (y.fdiv (G (G x y) w)) (w.fdiv (G (G x y) w)) :=
  pt_of (g3_abs x y w) (.inl ⟨g3_gt hw, hw⟩) lx ly lw
theorem one_abs_pos (n : Int) : 0 < 1 + if n < 0 then -n else n := by split <;> omega
theorem one_abs {n : Int} {m : Nat} (h : n.natAbs < 2 ^ m) : (1 + if n < 0 then -n else n).natAbs < 2 ^ (m + 1) := by
  have h1 : 1 ≤ 2 ^ m := Nat.one_le_two_pow
  rw [Nat.pow_succ]
  generalize 2 ^ m = k at *
  split <;> omega
end My
namespace My
theorem fr_cross {X W x z : Int} (hW : W ≠ 0) (e : X * z = x * W) : frT X W * z = x * frB X W := by
  have c := cross X W hW
  refine Int.eq_of_mul_eq_mul_right hW ?_
  calc frT X W * z * W = (frT X W * W) * z := by grind
    _ = (X * frB X W) * z := by rw [c]
    _ = (X * z) * frB X W := by grind
    _ = (x * W) * frB X W := by rw [e]
    _ = x * frB X W * W := by grind
end My
namespace My
def sgn (z : Int) : Int := if 0 < z then 1 else if z < 0 then -1 else 0
theorem sgn_pos {z : Int} (h : 0 < z) : sgn z = 1 := if_pos h
theorem sgn_neg {z : Int} (h : z < 0) : sgn z = -1 := by unfold sgn; rw [if_neg (by omega), if_pos h]
theorem sgn_zero : sgn 0 = 0 := by decide
theorem sgn_cases (z : Int) : (0 < z ∧ sgn z = 1) ∨ (z < 0 ∧ sgn z = -1) ∨ (z = 0 ∧ sgn z = 0) := by
  rcases (by omega : 0 < z ∨ z < 0 ∨ z = 0) with h | h | h
  · exact .inl ⟨h, sgn_pos h⟩
  · exact .inr (.inl ⟨h, sgn_neg h⟩)
  · exact .inr (.inr ⟨h, by rw [h]; rfl⟩)
theorem sgn_eq_zero {z : Int} : sgn z = 0 ↔ z = 0 := by
  rcases sgn_cases z with ⟨h, e⟩ | ⟨h, e⟩ | ⟨h, e⟩ <;> rw [e] <;> omega
theorem sgn_mul {k z : Int} (hk : 0 < k) : sgn (k * z) = sgn z := by
  rcases sgn_cases z with ⟨h, e⟩ | ⟨h, e⟩ | ⟨h, e⟩
  · rw [e, sgn_pos (Int.mul_pos hk h)]
  · rw [e, sgn_neg (Int.mul_neg_of_pos_of_neg hk h)]
  · rw [h, Int.mul_zero]
def bef (x1 y1 w1 x2 y2 w2 : Int) : Bool := if x1 * w2 = x2 * w1 then decide (y1 * w2 < y2 * w1) else decide (x1 * w2 < x2 * w1)
theorem frac_lt {a b c u v w : Int} (hu : 0 < u) (hv : 0 < v) (hw : 0 < w) (h1 : a * v ≤ b * u) (h2 : b * w ≤ c * v) : a * w ≤ c * u ∧ ((a * v < b * u ∨ b * w < c * v) → a * w < c * u) := by
  have e1 : (a * v) * w ≤ (b * u) * w := Int.mul_le_mul_of_nonneg_right h1 (Int.le_of_lt hw)
  have e2 : (b * w) * u ≤ (c * v) * u := Int.mul_le_mul_of_nonneg_right h2 (Int.le_of_lt hu)
  have i1 : v * (a * w) = (a * v) * w := by grind
  have i2 : v * (c * u) = (c * v) * u := by grind
  have i3 : (b * u) * w = (b * w) * u := by grind
  refine ⟨Int.le_of_mul_le_mul_left (by omega) hv, fun h => Int.lt_of_mul_lt_mul_left (a := v) ?_ (Int.le_of_lt hv)⟩
  rcases h with h | h
  · have := Int.mul_lt_mul_of_pos_right h hw; omega
  · have := Int.mul_lt_mul_of_pos_right h hu; omega
theorem bef_irr (x y w : Int) : bef x y w x y w = false := by
  unfold bef
  rw [if_pos rfl]
  exact decide_eq_false (by omega)
theorem bef_true {x1 y1 w1 x2 y2 w2 : Int} : bef x1 y1 w1 x2 y2 w2 = true ↔ (x1 * w2 < x2 * w1 ∨ (x1 * w2 = x2 * w1 ∧ y1 * w2 < y2 * w1)) := by
  unfold bef
  split
  · rename_i h
    rw [decide_eq_true_iff]
    omega
  · rename_i h
    rw [decide_eq_true_iff]
    omega
theorem bef_false {x1 y1 w1 x2 y2 w2 : Int} : bef x1 y1 w1 x2 y2 w2 = false ↔ (x2 * w1 < x1 * w2 ∨ (x1 * w2 = x2 * w1 ∧ y2 * w1 ≤ y1 * w2)) := by
  rw [← Bool.not_eq_true, bef_true]
  omega
theorem bef_trans {x1 y1 w1 x2 y2 w2 x3 y3 w3 : Int} (h1 : 0 < w1) (h2 : 0 < w2) (h3 : 0 < w3) (a : bef x1 y1 w1 x2 y2 w2 = true) (b : bef x2 y2 w2 x3 y3 w3 = true) : bef x1 y1 w1 x3 y3 w3 = true := by
  rw [bef_true] at a b ⊢
  have X := frac_lt (a := x1) (b := x2) (c := x3) h1 h2 h3 (by omega) (by omega)
  rcases a with a | ⟨a, a'⟩
  · exact .inl (X.2 (.inl a))
  · rcases b with b | ⟨b, b'⟩
    · exact .inl (X.2 (.inr b))
    · have X' := frac_lt (a := x3) (b := x2) (c := x1) h3 h2 h1 (by omega) (by omega)
      have Y := frac_lt (a := y1) (b := y2) (c := y3) h1 h2 h3 (by omega) (by omega)
      exact .inr ⟨Int.le_antisymm X.1 X'.1, Y.2 (.inl a')⟩
theorem pt_uniq {n : Nat} {x1 y1 w1 x2 y2 w2 : Int} (p : Pt n x1 y1 w1) (q : Pt n x2 y2 w2) (ex : x1 * w2 = x2 * w1) (ey : y1 * w2 = y2 * w1) : x1 = x2 ∧ y1 = y2 ∧ w1 = w2 := by
  have a := g3_mul x1 y1 w1 w2
  have b := g3_mul x2 y2 w2 w1
  rw [p.one, Nat.one_mul] at a
  rw [q.one, Nat.one_mul] at b
  rw [ex, ey, Int.mul_comm w1 w2] at a
  have hw : w1 = w2 := by
    have := p.pos
    have := q.pos
    omega
  subst hw
  exact ⟨Int.eq_of_mul_eq_mul_right p.ne ex, Int.eq_of_mul_eq_mul_right p.ne ey, rfl⟩
theorem bef_tri {n : Nat} {x1 y1 w1 x2 y2 w2 : Int} (p : Pt n x1 y1 w1) (q : Pt n x2 y2 w2) (h : bef x1 y1 w1 x2 y2 w2 = bef x2 y2 w2 x1 y1 w1) : x1 = x2 ∧ y1 = y2 ∧ w1 = w2 := by
  cases e : bef x1 y1 w1 x2 y2 w2 with
  | true =>
    have e' := h.symm.trans e
    rw [bef_true] at e e'
    omega
  | false =>
    have e' := h.symm.trans e
    rw [bef_false] at e e'
    exact pt_uniq p q (by omega) (by omega)
def lnA (x1 y1 w1 x2 y2 w2 : Int) : Int := y1 * w2 - w1 * y2
def lnB (x1 y1 w1 x2 y2 w2 : Int) : Int := w1 * x2 - x1 * w2
def lnC (x1 y1 w1 x2 y2 w2 : Int) : Int := x1 * y2 - y1 * x2
def det3 (x1 y1 w1 x2 y2 w2 x3 y3 w3 : Int) : Int := lnA x1 y1 w1 x2 y2 w2 * x3 + lnB x1 y1 w1 x2 y2 w2 * y3 + lnC x1 y1 w1 x2 y2 w2 * w3
theorem turn_law {x1 y1 w1 x2 y2 w2 x3 y3 w3 : Int} (h : 0 < w1) :
    (if (y2 * w1 - y1 * w2) * (x3 * w1 - x1 * w3) < (x2 * w1 - x1 * w2) * (y3 * w1 - y1 * w3) then (1 : Int) else 0) - (if (x2 * w1 - x1 * w2) * (y3 * w1 - y1 * w3) < (y2 * w1 - y1 * w2) * (x3 * w1 - x1 * w3) then (1 : Int) else 0) = sgn (det3 x1 y1 w1 x2 y2 w2 x3 y3 w3) := by
  have e : (x2 * w1 - x1 * w2) * (y3 * w1 - y1 * w3) - (y2 * w1 - y1 * w2) * (x3 * w1 - x1 * w3) = w1 * det3 x1 y1 w1 x2 y2 w2 x3 y3 w3 := by unfold det3 lnA lnB lnC; grind
  rw [← sgn_mul h, ← e]
  generalize (x2 * w1 - x1 * w2) * (y3 * w1 - y1 * w3) = u
  generalize (y2 * w1 - y1 * w2) * (x3 * w1 - x1 * w3) = v
  unfold sgn
  split <;> split <;> split <;> omega
end My
namespace My
theorem met_on {a b c a' b' c' : Int} (nz : a * b' - b * a' ≠ 0) :
    a * ptX (b * c' - c * b') (c * a' - a * c') (a * b' - b * a') + b * ptY (b * c' - c * b') (c * a' - a * c') (a * b' - b * a') + c * ptW (b * c' - c * b') (c * a' - a * c') (a * b' - b * a') = 0 ∧
    a' * ptX (b * c' - c * b') (c * a' - a * c') (a * b' - b * a') + b' * ptY (b * c' - c * b') (c * a' - a * c') (a * b' - b * a') + c' * ptW (b * c' - c * b') (c * a' - a * c') (a * b' - b * a') = 0 := by
  have ex := ptX_mul (b * c' - c * b') (c * a' - a * c') (a * b' - b * a')
  have ey := ptY_mul (b * c' - c * b') (c * a' - a * c') (a * b' - b * a')
  have ew := ptW_mul (b * c' - c * b') (c * a' - a * c') (a * b' - b * a')
  have fn := fac3_ne (x := b * c' - c * b') (y := c * a' - a * c') nz
  generalize ptX (b * c' - c * b') (c * a' - a * c') (a * b' - b * a') = X at *
  generalize ptY (b * c' - c * b') (c * a' - a * c') (a * b' - b * a') = Y at *
  generalize ptW (b * c' - c * b') (c * a' - a * c') (a * b' - b * a') = W at *
  generalize fac3 (b * c' - c * b') (c * a' - a * c') (a * b' - b * a') = f at *
  refine ⟨Int.eq_of_mul_eq_mul_right fn ?_, Int.eq_of_mul_eq_mul_right fn ?_⟩
  · calc (a * X + b * Y + c * W) * f = a * (X * f) + b * (Y * f) + c * (W * f) := by grind
      _ = 0 * f := by rw [ex, ey, ew]; grind
  · calc (a' * X + b' * Y + c' * W) * f = a' * (X * f) + b' * (Y * f) + c' * (W * f) := by grind
      _ = 0 * f := by rw [ex, ey, ew]; grind
theorem ways_alike (x0 y0 w0 x1 y1 w1 x2 y2 w2 x3 y3 w3 : Int) :
    ((x1 * w0 - x0 * w1) * (y3 * w2 - y2 * w3) = (y1 * w0 - y0 * w1) * (x3 * w2 - x2 * w3)) ↔ lnA x0 y0 w0 x1 y1 w1 * lnB x2 y2 w2 x3 y3 w3 - lnB x0 y0 w0 x1 y1 w1 * lnA x2 y2 w2 x3 y3 w3 = 0 := by
  have id : (x1 * w0 - x0 * w1) * (y3 * w2 - y2 * w3) - (y1 * w0 - y0 * w1) * (x3 * w2 - x2 * w3) = lnA x0 y0 w0 x1 y1 w1 * lnB x2 y2 w2 x3 y3 w3 - lnB x0 y0 w0 x1 y1 w1 * lnA x2 y2 w2 x3 y3 w3 := by unfold lnA lnB; grind
  rw [← id]
  omega
end My
namespace My
structure S6 where
  x1 : Int
  y1 : Int
  w1 : Int
  x2 : Int
  y2 : Int
  w2 : Int
def spansB (d : S6) (x w : Int) : Bool := if x * d.w1 < d.x1 * w then false else decide (x * d.w2 < d.x2 * w)
def abv (x y w : Int) (d : S6) : Bool := spansB d x w && decide (det3 d.x1 d.y1 d.w1 d.x2 d.y2 d.w2 x y w < 0)
def cntAb (ds : List S6) (x y w : Int) : Nat := (ds.filter (abv x y w)).length
theorem cnt_take {ds : List S6} {i : Nat} {d : S6} (x y w : Int) (h : ds[i]? = some d) : cntAb (ds.take (i + 1)) x y w = cntAb (ds.take i) x y w + if abv x y w d = true then 1 else 0 := by
  unfold cntAb
  rw [List.take_add_one, h, List.filter_append, List.length_append]
  cases e : abv x y w d <;> simp [e]
theorem cnt_snoc (ds : List S6) (d : S6) (x y w : Int) : cntAb (ds ++ [d]) x y w = cntAb ds x y w + if abv x y w d = true then 1 else 0 := by
  unfold cntAb
  rw [List.filter_append, List.length_append]
  cases e : abv x y w d <;> simp [e]
theorem sgn_diff (l : Int) : (if 0 < l then (1 : Int) else 0) - (if l < 0 then (1 : Int) else 0) = sgn l := by
  unfold sgn
  split <;> split <;> omega
theorem sgn_lt {l : Int} : sgn l < 0 ↔ l < 0 := by
  rcases sgn_cases l with ⟨h, e⟩ | ⟨h, e⟩ | ⟨h, e⟩ <;> rw [e] <;> omega
theorem det3_rows (x1 y1 w1 x2 y2 w2 x3 y3 w3 : Int) : x1 * (y2 * w3 - w2 * y3) - y1 * (x2 * w3 - w2 * x3) + w1 * (x2 * y3 - y2 * x3) = det3 x1 y1 w1 x2 y2 w2 x3 y3 w3 := by
  unfold det3 lnA lnB lnC; grind
theorem abv_over {x y w : Int} (hw : 0 < w) : abv x y w ⟨x - w, y + w, w, x + w, y + w, w⟩ = true := by
  have h2 := Int.mul_pos hw hw
  have h3 := Int.mul_pos h2 hw
  have e1 : (x - w) * w = x * w - w * w := by grind
  have e2 : (x + w) * w = x * w + w * w := by grind
  have e3 : det3 (x - w) (y + w) w (x + w) (y + w) w x y w = - (2 * (w * w * w)) := by unfold det3 lnA lnB lnC; grind
  unfold abv spansB
  dsimp only
  rw [if_neg (by omega), decide_eq_true (by omega : x * w < (x + w) * w), e3, decide_eq_true (by omega)]
  rfl
end My
namespace My
theorem abv_iff {x y w : Int} {d : S6} : abv x y w d = true ↔ (¬ x * d.w1 < d.x1 * w ∧ x * d.w2 < d.x2 * w ∧ det3 d.x1 d.y1 d.w1 d.x2 d.y2 d.w2 x y w < 0) := by
  unfold abv spansB
  by_cases h : x * d.w1 < d.x1 * w
  · rw [if_pos h]
    simp [h]
  · rw [if_neg h]
    simp [h]
end My
namespace My
theorem G_fmod (x y : Int) : G y (x.fmod y) = G x y := by
  unfold G
  rw [Int.gcd_comm x y]
  have e : x.fmod y + x.fdiv y * y = x := by rw [Int.mul_comm]; exact Int.fmod_add_mul_fdiv x y
  rw [← Int.gcd_add_mul_right_right y (x.fmod y) (x.fdiv y), e]
theorem fmod_small {x y : Int} (h : y ≠ 0) : (x.fmod y).natAbs < y.natAbs := by
  have h0 := Int.emod_nonneg x h
  have h1 := Int.emod_lt x h
  rw [Int.fmod_eq_emod]
  split
  · omega
  · rename_i c
    have hn : x % y ≠ 0 := fun z => c (.inr (Int.dvd_of_emod_eq_zero z))
    have hy : ¬ 0 ≤ y := fun z => c (.inl z)
    omega
theorem G_end (x : Int) : (if x < 0 then -x else x) = G x 0 := by
  unfold G
  rw [Int.gcd_zero_right]
  split <;> omega
theorem det3_cols (x1 y1 w1 x2 y2 w2 x3 y3 w3 : Int) : x1 * (y2 * w3 - y3 * w2) - y1 * (x2 * w3 - x3 * w2) + w1 * (x2 * y3 - x3 * y2) = det3 x1 y1 w1 x2 y2 w2 x3 y3 w3 := by
  unfold det3 lnA lnB lnC; grind
theorem det3_first (x1 y1 w1 x2 y2 w2 : Int) : det3 x1 y1 w1 x2 y2 w2 x1 y1 w1 = 0 := by unfold det3 lnA lnB lnC; grind
theorem det3_second (x1 y1 w1 x2 y2 w2 : Int) : det3 x1 y1 w1 x2 y2 w2 x2 y2 w2 = 0 := by unfold det3 lnA lnB lnC; grind
theorem bef_asym {x1 y1 w1 x2 y2 w2 : Int} (h : bef x1 y1 w1 x2 y2 w2 = true) : bef x2 y2 w2 x1 y1 w1 = false := by
  rw [bef_true] at h
  rw [bef_false]
  omega
def onB (x1 y1 w1 x2 y2 w2 x3 y3 w3 : Int) : Bool := if sgn (det3 x1 y1 w1 x2 y2 w2 x3 y3 w3) = 0 then (!bef x3 y3 w3 x1 y1 w1 && !bef x2 y2 w2 x3 y3 w3) else false
theorem onB_first {x1 y1 w1 x2 y2 w2 : Int} (h : bef x1 y1 w1 x2 y2 w2 = true) : onB x1 y1 w1 x2 y2 w2 x1 y1 w1 = true := by
  unfold onB
  rw [det3_first, sgn_zero, if_pos rfl, bef_irr, bef_asym h]
  rfl
theorem onB_second {x1 y1 w1 x2 y2 w2 : Int} (h : bef x1 y1 w1 x2 y2 w2 = true) : onB x1 y1 w1 x2 y2 w2 x2 y2 w2 = true := by
  unfold onB
  rw [det3_second, sgn_zero, if_pos rfl, bef_irr, bef_asym h]
  rfl
theorem g3_one (x y : Int) : g3 x y 1 = 1 := by unfold g3; simp
end My
namespace Mine
open PySem L2 My
def top (i : Nat) : Stmt := PySem.Challenge.pw_acre_k71_numbers_and_points.main.body.getD i (.Pass ⟨0, 0, 0, 0⟩)
abbrev s_is_whole : Stmt := top 9
theorem sc_is_whole : FnScope ["thing"] ["thing"] (defScope s_is_whole) := ⟨rfl, rfl, rfl, by decide +kernel, rfl, by decide +kernel, by decide +kernel⟩
abbrev s_divisor : Stmt := top 10
theorem sc_divisor : FnScope ["one", "other", "great", "small", "rest"] ["one", "other"] (defScope s_divisor) := ⟨rfl, rfl, rfl, by decide +kernel, rfl, by decide +kernel, by decide +kernel⟩
abbrev s_point : Stmt := top 12
theorem sc_point : FnScope ["x", "y", "w", "factor"] ["x", "y", "w"] (defScope s_point) := ⟨rfl, rfl, rfl, by decide +kernel, rfl, by decide +kernel, by decide +kernel⟩
abbrev s_read_point : Stmt := top 16
theorem sc_read_point : FnScope ["text", "parts", "x", "y"] ["text"] (defScope s_read_point) := ⟨rfl, rfl, rfl, by decide +kernel, rfl, by decide +kernel, by decide +kernel⟩
abbrev s_read_number : Stmt := top 17
theorem sc_read_number : FnScope ["text", "parts", "top", "bottom"] ["text"] (defScope s_read_number) := ⟨rfl, rfl, rfl, by decide +kernel, rfl, by decide +kernel, by decide +kernel⟩
abbrev s_read_whole : Stmt := top 18
theorem sc_read_whole : FnScope ["text", "figures"] ["text"] (defScope s_read_whole) := ⟨rfl, rfl, rfl, by decide +kernel, rfl, by decide +kernel, by decide +kernel⟩
abbrev s_is_row_of_figures : Stmt := top 19
theorem sc_is_row_of_figures : FnScope ["text"] ["text"] (defScope s_is_row_of_figures) := ⟨rfl, rfl, rfl, by decide +kernel, rfl, by decide +kernel, by decide +kernel⟩
abbrev s_show_fraction : Stmt := top 20
theorem sc_show_fraction : FnScope ["one"] ["one"] (defScope s_show_fraction) := ⟨rfl, rfl, rfl, by decide +kernel, rfl, by decide +kernel, by decide +kernel⟩
abbrev s_law_cell_at : Stmt := top 22
theorem sc_law_cell_at : FnScope ["_law_script", "_law_k"] ["_law_script", "_law_k"] (defScope s_law_cell_at) := ⟨rfl, rfl, rfl, by decide +kernel, rfl, by decide +kernel, by decide +kernel⟩
abbrev s_law_whole : Stmt := top 23
theorem sc_law_whole : FnScope ["_law_found"] ["_law_found"] (defScope s_law_whole) := ⟨rfl, rfl, rfl, by decide +kernel, rfl, by decide +kernel, by decide +kernel⟩
abbrev s_law_alike : Stmt := top 24
theorem sc_law_alike : FnScope ["_law_found", "_law_due", "_law_k"] ["_law_found", "_law_due"] (defScope s_law_alike) := ⟨rfl, rfl, rfl, by decide +kernel, rfl, by decide +kernel, by decide +kernel⟩
abbrev s_law_figures : Stmt := top 25
theorem sc_law_figures : FnScope ["_law_text", "_law_sign"] ["_law_text"] (defScope s_law_figures) := ⟨rfl, rfl, rfl, by decide +kernel, rfl, by decide +kernel, by decide +kernel⟩
abbrev s_law_divisor : Stmt := top 26
theorem sc_law_divisor : FnScope ["_law_one", "_law_other", "_law_rest"] ["_law_one", "_law_other"] (defScope s_law_divisor) := ⟨rfl, rfl, rfl, by decide +kernel, rfl, by decide +kernel, by decide +kernel⟩
abbrev s_law_number : Stmt := top 27
theorem sc_law_number : FnScope ["_law_text", "_law_parts", "_law_sign", "_law_head", "_law_top", "_law_bottom"] ["_law_text"] (defScope s_law_number) := ⟨rfl, rfl, rfl, by decide +kernel, rfl, by decide +kernel, by decide +kernel⟩
abbrev s_law_point : Stmt := top 28
theorem sc_law_point : FnScope ["_law_text", "_law_parts", "_law_x", "_law_y", "_law_by"] ["_law_text"] (defScope s_law_point) := ⟨rfl, rfl, rfl, by decide +kernel, rfl, by decide +kernel, by decide +kernel⟩
abbrev s_law_bound : Stmt := top 29
theorem sc_law_bound : FnScope ["_law_cell"] ["_law_cell"] (defScope s_law_bound) := ⟨rfl, rfl, rfl, by decide +kernel, rfl, by decide +kernel, by decide +kernel⟩
abbrev s_law_size : Stmt := top 30
theorem sc_law_size : FnScope ["_law_cell"] ["_law_cell"] (defScope s_law_size) := ⟨rfl, rfl, rfl, by decide +kernel, rfl, by decide +kernel, by decide +kernel⟩
abbrev s_law_number_text : Stmt := top 31
theorem sc_law_number_text : FnScope ["_law_cell", "_law_top", "_law_sign", "_law_bottom"] ["_law_cell"] (defScope s_law_number_text) := ⟨rfl, rfl, rfl, by decide +kernel, rfl, by decide +kernel, by decide +kernel⟩
abbrev s_law_spoilt : Stmt := top 32
theorem sc_law_spoilt : FnScope ["_law_text", "_law_cell", "_law_signs", "_law_at", "_law_more"] ["_law_text", "_law_cell"] (defScope s_law_spoilt) := ⟨rfl, rfl, rfl, by decide +kernel, rfl, by decide +kernel, by decide +kernel⟩
abbrev s_law_odd : Stmt := top 33
theorem sc_law_odd : FnScope ["_law_cell", "_law_some"] ["_law_cell"] (defScope s_law_odd) := ⟨rfl, rfl, rfl, by decide +kernel, rfl, by decide +kernel, by decide +kernel⟩
abbrev s_law_read : Stmt := top 34
theorem sc_law_read : FnScope ["_law_text", "e"] ["_law_text"] (defScope s_law_read) := ⟨rfl, rfl, rfl, by decide +kernel, rfl, by decide +kernel, by decide +kernel⟩
abbrev s_law_right : Stmt := top 35
theorem sc_law_right : FnScope ["_law_text", "_law_due", "_law_found"] ["_law_text"] (defScope s_law_right) := ⟨rfl, rfl, rfl, by decide +kernel, rfl, by decide +kernel, by decide +kernel⟩
abbrev s_law : Stmt := top 36
theorem sc_law : FnScope ["_law_script", "_law_text", "_law_k", "_law_one", "_law_due", "_law_found"] ["_law_script"] (defScope s_law) := ⟨rfl, rfl, rfl, by decide +kernel, rfl, by decide +kernel, by decide +kernel⟩
structure FnAt (K : PySem.W.Frag) (mg : Str → Option Value) (x : Str) (st : Stmt) (ps : List Str) (f : Addr) (fd : FuncData) : Prop where
  fn : Fun K x x st f fd
  bn : Binds K fd ps []
  mg : mg x = some (.ref f)
structure Txt (K : PySem.W.Frag) (mg : Str → Option Value) (ad : Nat → Addr) (fd : Nat → FuncData) (ca : Nat → Addr) : Prop where
  is_whole : FnAt K mg "is_whole" s_is_whole ["thing"] (ad 0) (fd 0)
  divisor : FnAt K mg "divisor" s_divisor ["one", "other"] (ad 1) (fd 1)
  point : FnAt K mg "point" s_point ["x", "y", "w"] (ad 2) (fd 2)
  read_point : FnAt K mg "read_point" s_read_point ["text"] (ad 3) (fd 3)
  read_number : FnAt K mg "read_number" s_read_number ["text"] (ad 4) (fd 4)
  read_whole : FnAt K mg "read_whole" s_read_whole ["text"] (ad 5) (fd 5)
  is_row_of_figures : FnAt K mg "is_row_of_figures" s_is_row_of_figures ["text"] (ad 6) (fd 6)
  show_fraction : FnAt K mg "show_fraction" s_show_fraction ["one"] (ad 7) (fd 7)
  law_cell_at : FnAt K mg "_law_cell_at" s_law_cell_at ["_law_script", "_law_k"] (ad 8) (fd 8)
  law_whole : FnAt K mg "_law_whole" s_law_whole ["_law_found"] (ad 9) (fd 9)
  law_alike : FnAt K mg "_law_alike" s_law_alike ["_law_found", "_law_due"] (ad 10) (fd 10)
  law_figures : FnAt K mg "_law_figures" s_law_figures ["_law_text"] (ad 11) (fd 11)
  law_divisor : FnAt K mg "_law_divisor" s_law_divisor ["_law_one", "_law_other"] (ad 12) (fd 12)
  law_number : FnAt K mg "_law_number" s_law_number ["_law_text"] (ad 13) (fd 13)
  law_point : FnAt K mg "_law_point" s_law_point ["_law_text"] (ad 14) (fd 14)
  law_bound : FnAt K mg "_law_bound" s_law_bound ["_law_cell"] (ad 15) (fd 15)
  law_size : FnAt K mg "_law_size" s_law_size ["_law_cell"] (ad 16) (fd 16)
  law_number_text : FnAt K mg "_law_number_text" s_law_number_text ["_law_cell"] (ad 17) (fd 17)
  law_spoilt : FnAt K mg "_law_spoilt" s_law_spoilt ["_law_text", "_law_cell"] (ad 18) (fd 18)
  law_odd : FnAt K mg "_law_odd" s_law_odd ["_law_cell"] (ad 19) (fd 19)
  law_read : FnAt K mg "_law_read" s_law_read ["_law_text"] (ad 20) (fd 20)
  law_right : FnAt K mg "_law_right" s_law_right ["_law_text"] (ad 21) (fd 21)
  law : FnAt K mg "law" s_law ["_law_script"] (ad 22) (fd 22)
  b_ValueError : mg "ValueError" = none
  b_abs : mg "abs" = none
  b_all : mg "all" = none
  b_bool : mg "bool" = none
  b_int : mg "int" = none
  b_isinstance : mg "isinstance" = none
  b_len : mg "len" = none
  b_list : mg "list" = none
  b_range : mg "range" = none
  b_str : mg "str" = none
  b_tuple : mg "tuple" = none
  g_MOST_FIGURES : ∃ t, mg "MOST_FIGURES" = some (.int 60 t)
  g_FIGURES : ∃ t, mg "FIGURES" = some (.str "0123456789" t)
  x_AcreError : mg "AcreError" = some (.ref (ca 0))
  x_NoNumber : mg "NoNumber" = some (.ref (ca 1))
  x_NoPoint : mg "NoPoint" = some (.ref (ca 2))
  x_NoStretch : mg "NoStretch" = some (.ref (ca 3))
  x_NoName : mg "NoName" = some (.ref (ca 4))
  x_NoText : mg "NoText" = some (.ref (ca 5))
  x_NoRow : mg "NoRow" = some (.ref (ca 6))
  xc_NoText : XC K (ca 5)
  xi_NoText : XI K (ca 5)
  is_NoText_NoName : PySem.W.kitOne K (.ref (ca 5)) (.ref (ca 4)) = some false
  is_NoText_NoRow : PySem.W.kitOne K (.ref (ca 5)) (.ref (ca 6)) = some false
  is_NoText_NoNumber : PySem.W.kitOne K (.ref (ca 5)) (.ref (ca 1)) = some false
  is_NoText_NoPoint : PySem.W.kitOne K (.ref (ca 5)) (.ref (ca 2)) = some false
  is_NoText_NoStretch : PySem.W.kitOne K (.ref (ca 5)) (.ref (ca 3)) = some false
  is_NoText_AcreError : PySem.W.kitOne K (.ref (ca 5)) (.ref (ca 0)) = some true
  is_NoText_ValueError : PySem.W.kitOne K (.ref (ca 5)) (.type "ValueError") = some true
  ex_NoText_NoText : PySem.W.exmOne K (.ref (ca 5)) (.ref (ca 5)) = some true
def sp_whole : Sp := fun vs H Q _ => ∃ i : Int, vs = [.int i] ∧ Q (.bl true) H
def sp_divisor : Sp := fun vs H Q _ => ∃ a b : Int, vs = [.int a, .int b] ∧ Q (.int (G a b)) H
def iv_divisor (a b : Int) (H₀ : Hp) : St → Hp → Prop := fun σ H' => H' = H₀ ∧ ∃ (x y : Int) (r : Option V), σ = [some (.int a), some (.int b), some (.int x), some (.int y), r] ∧ 0 ≤ x ∧ 0 ≤ y ∧ G x y = G a b
def iv_law_divisor (a b : Int) (H₀ : Hp) : St → Hp → Prop := fun σ H' => H' = H₀ ∧ ∃ (x y : Int) (r : Option V), σ = [some (.int x), some (.int y), r] ∧ 0 ≤ x ∧ 0 ≤ y ∧ G x y = G a b
def sp_cell (K : PySem.W.Frag) : Sp := fun vs H Q _ => ∃ (l : Addr) (ns : List Int) (k : Int), vs = [.ref l, .int k] ∧ SqL K H l (ns.map V.int) ∧ 0 ≤ k ∧ Q (.int (ns.getD k.toNat 0)) H
def sp_num : Sp := fun vs H Q _ => ∃ c : Int, vs = [.int c] ∧ Q (.int (numBy c)) H
def sp_law (K : PySem.W.Frag) : Sp := fun vs H Q _ => ∃ (a : Addr) (ns : List Int), vs = [.ref a] ∧ SqL K H a (ns.map V.int) ∧ ns.length ≤ 63 ∧ ∀ H', Q (.bl true) H'
def PtH (n : Nat) (H : Hp) (p : Addr) (x y w : Int) : Prop := H p = some (.tup [.int x, .int y, .int w]) ∧ Pt n x y w
theorem PtH.same {n : Nat} {H H' : Hp} {p : Addr} {x y w : Int} (h : PtH n H p x y w) (g : Same H H') : PtH n H' p x y w := ⟨g _ _ h.1, h.2⟩
theorem PtH.mono {m n : Nat} {H : Hp} {p : Addr} {x y w : Int} (h : PtH m H p x y w) (hm : m ≤ n) : PtH n H p x y w := ⟨h.1, h.2.mono hm⟩
def Bd3 (n : Nat) (a b c : Int) : Prop := a.natAbs < 2 ^ n ∧ b.natAbs < 2 ^ n ∧ c.natAbs < 2 ^ n
def TB (n : Nat) (H : Hp) (p : Addr) (x y w : Int) : Prop := H p = some (.tup [.int x, .int y, .int w]) ∧ Bd3 n x y w
theorem TB.same {n : Nat} {H H' : Hp} {p : Addr} {x y w : Int} (h : TB n H p x y w) (g : Same H H') : TB n H' p x y w := ⟨g _ _ h.1, h.2⟩
theorem Bd3.mono {m n : Nat} {x y w : Int} (h : Bd3 m x y w) (hm : m ≤ n) : Bd3 n x y w := ⟨lt_mono h.1 hm, lt_mono h.2.1 hm, lt_mono h.2.2 hm⟩
theorem TB.mono {m n : Nat} {H : Hp} {p : Addr} {x y w : Int} (h : TB m H p x y w) (hm : m ≤ n := by decide) : TB n H p x y w := ⟨h.1, h.2.mono hm⟩
theorem Pt.bd {m n : Nat} {x y w : Int} (h : Pt m x y w) (hm : m ≤ n := by decide) : Bd3 n x y w := ⟨lt_mono h.lx hm, lt_mono h.ly hm, lt_mono h.lw hm⟩
theorem PtH.tb {m n : Nat} {H : Hp} {p : Addr} {x y w : Int} (h : PtH m H p x y w) (hm : m ≤ n := by decide) : TB n H p x y w := ⟨h.1, Pt.bd h.2 hm⟩
def sp_pointI : Sp := fun vs H Q _ => ∃ a b w : Int, vs = [.int a, .int b, .int w] ∧ w ≠ 0 ∧ w.natAbs < 2 ^ 8000 ∧ ∀ p H', Same H H' → H' p = some (.tup [.int (ptX a b w), .int (ptY a b w), .int (ptW a b w)]) → Q (.ref p) H'
def sp_is_point : Sp := fun vs H Q _ => ∃ (p : Addr) (x y w : Int), vs = [.ref p] ∧ H p = some (.tup [.int x, .int y, .int w]) ∧ 0 < w ∧ g3 x y w = 1 ∧ Q (.bl true) H
def sp_point_by : Sp := fun vs H Q _ => ∃ a b c : Int, vs = [.int a, .int b, .int c] ∧ ∀ (p : Addr) (H' : Hp) (x y w : Int), Same H H' → PtH 201 H' p x y w → Q (.ref p) H'
def sp_before : Sp := fun vs H Q _ => ∃ (p q : Addr) (x1 y1 w1 x2 y2 w2 : Int), vs = [.ref p, .ref q] ∧ TB 1000 H p x1 y1 w1 ∧ TB 1000 H q x2 y2 w2 ∧ Q (.bl (bef x1 y1 w1 x2 y2 w2)) H
def sp_amid : Sp := fun vs H Q _ => ∃ (p q : Addr) (x1 y1 w1 x2 y2 w2 : Int), vs = [.ref p, .ref q] ∧ TB 1000 H p x1 y1 w1 ∧ TB 1000 H q x2 y2 w2 ∧ w1 ≠ 0 ∧ w2 ≠ 0 ∧ ∀ (r : Addr) (H' : Hp), Same H H' →
  H' r = some (.tup [.int (ptX (x1 * w2 + x2 * w1) (y1 * w2 + y2 * w1) (2 * w1 * w2)), .int (ptY (x1 * w2 + x2 * w1) (y1 * w2 + y2 * w1) (2 * w1 * w2)), .int (ptW (x1 * w2 + x2 * w1) (y1 * w2 + y2 * w1) (2 * w1 * w2))]) → Q (.ref r) H'
def sp_sign : Sp := fun vs H Q _ => ∃ z : Int, vs = [.int z] ∧ Q (.int (sgn z)) H
def sp_line : Sp := fun vs H Q _ => ∃ (p q : Addr) (x1 y1 w1 x2 y2 w2 : Int), vs = [.ref p, .ref q] ∧ TB 1000 H p x1 y1 w1 ∧ TB 1000 H q x2 y2 w2 ∧ ∀ (r : Addr) (H' : Hp), Same H H' →
  H' r = some (.tup [.int (lnA x1 y1 w1 x2 y2 w2), .int (lnB x1 y1 w1 x2 y2 w2), .int (lnC x1 y1 w1 x2 y2 w2)]) → Q (.ref r) H'
theorem ln_bd {x1 y1 w1 x2 y2 w2 : Int} (p : Bd3 1000 x1 y1 w1) (q : Bd3 1000 x2 y2 w2) : Bd3 2001 (lnA x1 y1 w1 x2 y2 w2) (lnB x1 y1 w1 x2 y2 w2) (lnC x1 y1 w1 x2 y2 w2) :=
  ⟨sub_lt (mul_lt p.2.1 q.2.2) (mul_lt p.2.2 q.2.1), sub_lt (mul_lt p.2.2 q.1) (mul_lt p.1 q.2.2), sub_lt (mul_lt p.1 q.2.1) (mul_lt p.2.1 q.1)⟩
def sp_side : Sp := fun vs H Q _ => ∃ (l p : Addr) (a b c x y w : Int), vs = [.ref l, .ref p] ∧ H l = some (.tup [.int a, .int b, .int c]) ∧ Bd3 2001 a b c ∧ H p = some (.tup [.int x, .int y, .int w]) ∧ Bd3 5000 x y w ∧ Q (.int (sgn (a * x + b * y + c * w))) H
def sp_turn : Sp := fun vs H Q _ => ∃ (p q r : Addr) (x1 y1 w1 x2 y2 w2 x3 y3 w3 : Int), vs = [.ref p, .ref q, .ref r] ∧ TB 1000 H p x1 y1 w1 ∧ TB 1000 H q x2 y2 w2 ∧ TB 5000 H r x3 y3 w3 ∧ ∀ H', Same H H' → Q (.int (sgn (det3 x1 y1 w1 x2 y2 w2 x3 y3 w3))) H'
def sp_met : Sp := fun vs H Q _ => ∃ (p q : Addr) (a b c a' b' c' : Int), vs = [.ref p, .ref q] ∧ H p = some (.tup [.int a, .int b, .int c]) ∧ Bd3 2001 a b c ∧ H q = some (.tup [.int a', .int b', .int c']) ∧ Bd3 2001 a' b' c' ∧
  (a * b' - b * a' = 0 → Q .non H) ∧ (a * b' - b * a' ≠ 0 → ∀ (r : Addr) (H' : Hp), Same H H' →
    H' r = some (.tup [.int (ptX (b * c' - c * b') (c * a' - a * c') (a * b' - b * a')), .int (ptY (b * c' - c * b') (c * a' - a * c') (a * b' - b * a')), .int (ptW (b * c' - c * b') (c * a' - a * c') (a * b' - b * a'))]) → Q (.ref r) H')
def iv_pts (n : Nat) (H2 : Hp) (D : Addr) : Nat → List V → Hp → Prop := fun i ys H' => Same H2 H' ∧ H' D = some (.lst ys) ∧ ys.length = i ∧ ∀ (j : Nat) (v : V), ys[j]? = some v → ∃ (p : Addr) (x y w : Int), v = .ref p ∧ PtH n H' p x y w
theorem last_of {α : Type} {ys : List α} {a v : α} {j : Nat} (z : (ys ++ [a])[j]? = some v) : ys[j]? = some v ∨ v = a := by
  by_cases hj : j < ys.length
  · rw [List.getElem?_append_left hj] at z
    exact .inl z
  · rw [List.getElem?_append_right (by omega)] at z
    cases e : j - ys.length with
    | zero => rw [e] at z; cases z; exact .inr rfl
    | succ n => rw [e] at z; cases z
theorem iv_pts_put {n m : Nat} {H2 H3 H4 : Hp} {D : Addr} {i : Nat} {ys : List V} {p : Addr} {x y w : Int} (hD : H2 D = none) (hm : m < 100000) (iv : iv_pts n H2 D i ys H3) (hi : i < m) (g4 : Same H3 H4) (hp : PtH n H4 p x y w) : CPut m (iv_pts n H2 D) D i (.ref p) H4 := by
  obtain ⟨g3', hD3, hy, hall⟩ := iv
  have hD4 := g4 _ _ hD3
  have st : ∀ {q : Addr} {a b c : Int}, PtH n H4 q a b c → PtH n (upd H4 D (.lst (ys ++ [V.ref p]))) q a b c := fun {q a b c} h => ⟨by rw [upd_ne (ne_of h.1 hD4 (by intro z; cases z))]; exact h.1, h.2⟩
  refine cw_put hi hD4 (by rw [hy]; exact Nat.lt_trans hi (Nat.lt_trans hm (by decide))) ⟨same_put (g3'.trans g4) hD, upd_same, by rw [List.length_append, hy]; rfl, fun j v z => ?_⟩
  rcases last_of z with z | rfl
  · obtain ⟨q, a, b, c, e, h⟩ := hall j v z
    exact ⟨q, a, b, c, e, st (h.same g4)⟩
  · exact ⟨p, x, y, w, rfl, st hp⟩
def TupSame (H H' : Hp) : Prop := ∀ b xs, H b = some (.tup xs) → H' b = some (.tup xs)
theorem ts_same {H H' : Hp} (g : Same H H') : TupSame H H' := fun b xs h => g b _ h
theorem ts_put {H : Hp} {D : Addr} {ys : List V} {o : HO} (h : H D = some (.lst ys)) : TupSame H (upd H D o) := fun b xs q => by
  rw [upd_ne (ne_of q h (by intro z; cases z))]
  exact q
def iv_refs (R : Hp → Addr → Prop) (H2 : Hp) (D : Addr) : Nat → List V → Hp → Prop := fun i ys H' => Same H2 H' ∧ H' D = some (.lst ys) ∧ ys.length = i ∧ ∀ (j : Nat) (v : V), ys[j]? = some v → ∃ p : Addr, v = .ref p ∧ R H' p
theorem iv_refs_put {R : Hp → Addr → Prop} (hR : ∀ H H' p, TupSame H H' → R H p → R H' p) {m : Nat} {H2 H3 H4 : Hp} {D : Addr} {i : Nat} {ys : List V} {p : Addr} (hD : H2 D = none) (hm : m < 100000) (iv : iv_refs R H2 D i ys H3) (hi : i < m) (g4 : Same H3 H4) (hp : R H4 p) : CPut m (iv_refs R H2 D) D i (.ref p) H4 := by
  obtain ⟨g3', hD3, hy, hall⟩ := iv
  have hD4 := g4 _ _ hD3
  refine cw_put hi hD4 (by rw [hy]; exact Nat.lt_trans hi (Nat.lt_trans hm (by decide))) ⟨same_put (g3'.trans g4) hD, upd_same, by rw [List.length_append, hy]; rfl, fun j v z => ?_⟩
  rcases last_of z with z | rfl
  · obtain ⟨q, e, h⟩ := hall j v z
    exact ⟨q, e, hR _ _ _ (ts_put hD4) (hR _ _ _ (ts_same g4) h)⟩
  · exact ⟨p, rfl, hR _ _ _ (ts_put hD4) hp⟩
def PB (H : Hp) (p : Addr) : Prop := ∃ x y w : Int, TB 1000 H p x y w ∧ 0 < w
def PBn (n : Nat) (H : Hp) (p : Addr) : Prop := ∃ x y w : Int, TB n H p x y w ∧ 0 < w
theorem PBn.ts {n : Nat} {H H' : Hp} {p : Addr} (g : TupSame H H') (h : PBn n H p) : PBn n H' p := by
  obtain ⟨x, y, w, ⟨h1, h2⟩, h3⟩ := h
  exact ⟨x, y, w, ⟨g _ _ h1, h2⟩, h3⟩
theorem PBn.pb {n : Nat} {H : Hp} {p : Addr} (h : PBn n H p) (hn : n ≤ 1000) : PB H p := by
  obtain ⟨x, y, w, h1, h3⟩ := h
  exact ⟨x, y, w, h1.mono hn, h3⟩
theorem PBn.mono {m n : Nat} {H : Hp} {p : Addr} (h : PBn m H p) (hn : m ≤ n) : PBn n H p := by
  obtain ⟨x, y, w, h1, h3⟩ := h
  exact ⟨x, y, w, h1.mono hn, h3⟩
theorem PB.ts {H H' : Hp} {p : Addr} (g : TupSame H H') (h : PB H p) : PB H' p := by
  obtain ⟨x, y, w, ⟨h1, h2⟩, h3⟩ := h
  exact ⟨x, y, w, ⟨g _ _ h1, h2⟩, h3⟩
def StV (H : Hp) (p : Addr) (d : S6) : Prop := ∃ a b, H p = some (.tup [.ref a, .ref b]) ∧ TB 1000 H a d.x1 d.y1 d.w1 ∧ TB 1000 H b d.x2 d.y2 d.w2
theorem TB.ts {n : Nat} {H H' : Hp} {p : Addr} {x y w : Int} (h : TB n H p x y w) (g : TupSame H H') : TB n H' p x y w := ⟨g _ _ h.1, h.2⟩
theorem StV.ts {H H' : Hp} {p : Addr} {d : S6} (h : StV H p d) (g : TupSame H H') : StV H' p d := by
  obtain ⟨a, b, h1, h2, h3⟩ := h
  exact ⟨a, b, g _ _ h1, h2.ts g, h3.ts g⟩
def StL (H : Hp) (ys : List V) (ds : List S6) : Prop := ys.length = ds.length ∧ ∀ (j : Nat) (v : V), ys[j]? = some v → ∃ (p : Addr) (d : S6), v = .ref p ∧ ds[j]? = some d ∧ StV H p d
theorem StL.ts {H H' : Hp} {ys : List V} {ds : List S6} (h : StL H ys ds) (g : TupSame H H') : StL H' ys ds := ⟨h.1, fun j v z => by
  obtain ⟨p, d, e, f, s⟩ := h.2 j v z
  exact ⟨p, d, e, f, s.ts g⟩⟩
theorem StL.nil {H : Hp} : StL H [] [] := ⟨rfl, fun j v z => by cases z⟩
theorem StL.snoc {H : Hp} {ys : List V} {ds : List S6} {p : Addr} {d : S6} (h : StL H ys ds) (s : StV H p d) : StL H (ys ++ [.ref p]) (ds ++ [d]) := by
  refine ⟨by rw [List.length_append, List.length_append, h.1]; rfl, fun j v z => ?_⟩
  by_cases hj : j < ys.length
  · rw [List.getElem?_append_left hj] at z
    obtain ⟨q, e, f, g, t⟩ := h.2 j v z
    exact ⟨q, e, f, by rw [List.getElem?_append_left (by rw [← h.1]; exact hj)]; exact g, t⟩
  · rw [List.getElem?_append_right (by omega)] at z
    cases e : j - ys.length with
    | zero =>
      rw [e] at z
      cases z
      exact ⟨p, d, rfl, by rw [List.getElem?_append_right (by rw [← h.1]; omega), ← h.1, e]; rfl, s⟩
    | succ n => rw [e] at z; cases z
def dSt (d : S6) : PyData := .tuple [dPt d.x1 d.y1 d.w1, dPt d.x2 d.y2 d.w2]
theorem rd_stv {K : PySem.W.Frag} {H : Hp} {p : Addr} {d : S6} (h : StV H p d) : RdD K H (dSt d) (.ref p) := by
  obtain ⟨a, b, hp, ha, hb⟩ := h
  unfold dSt
  rw [RdD]
  refine ⟨p, _, rfl, .of hp, ?_⟩
  rw [RdDs]
  refine ⟨_, _, rfl, rd_pt (.of ha.1), ?_⟩
  rw [RdDs]
  refine ⟨_, _, rfl, rd_pt (.of hb.1), ?_⟩
  rw [RdDs]
theorem rdDs_of {K : PySem.W.Frag} {H : Hp} : ∀ (ys : List V) (ds : List S6), StL H ys ds → RdDs K H (ds.map dSt) ys
  | [], [], _ => by rw [List.map_nil, RdDs]
  | [], d :: ds, h => by cases h.1
  | v :: ys, [], h => by cases h.1
  | v :: ys, d :: ds, h => by
    obtain ⟨p, d', e, f, s⟩ := h.2 0 v rfl
    cases f
    subst e
    rw [List.map_cons, RdDs]
    exact ⟨_, ys, rfl, rd_stv s, rdDs_of ys ds ⟨Nat.succ.inj h.1, fun j v z => h.2 (j + 1) v z⟩⟩
theorem rd_stl {K : PySem.W.Frag} {H : Hp} {l : Addr} {ys : List V} {ds : List S6} (hl : H l = some (.lst ys)) (h : StL H ys ds) : RdD K H (.list (ds.map dSt)) (.ref l) := by
  rw [RdD]
  exact ⟨l, ys, rfl, .of hl, rdDs_of ys ds h⟩
theorem dSt_all (ds : List S6) : PyData.canLayAll0 (ds.map dSt) = true ∧ PyData.depthAll (ds.map dSt) ≤ 2 ∧ PyData.eqvAll (ds.map dSt) (ds.map dSt) = true := by
  induction ds with
  | nil => simp [PyData.canLayAll0, PyData.depthAll, PyData.eqvAll]
  | cons d ds ih =>
    obtain ⟨h1, h2, h3⟩ := ih
    refine ⟨?_, ?_, ?_⟩
    · simp [PyData.canLayAll0, dSt, dPt, PyData.canLay0, h1]
    · simp only [List.map_cons, PyData.depthAll, dSt, dPt, PyData.depth]
      omega
    · simp [PyData.eqvAll, dSt, dPt, PyData.eqv, h3]
theorem dSt_shaped (d : S6) : SeqAt.shaped (dSt d) = true := by
  simp [dSt, dPt, SeqAt.shaped, PyData.canLay0, PyData.canLayAll0, PyData.depth, PyData.depthAll]
theorem dSt_self (d : S6) : PyData.eqv (dSt d) (dSt d) = true := by simp [dSt, dPt, PyData.eqv, PyData.eqvAll]
theorem rd_bl {K : PySem.W.Frag} {H : Hp} {b : Bool} : RdD K H (.bool b) (.bl b) := by rw [RdD]
theorem bl_shaped (b : Bool) : SeqAt.shaped (.bool b) = true := by simp [SeqAt.shaped, PyData.canLay0, PyData.depth]
theorem bl_self (b : Bool) : PyData.eqv (.bool b) (.bool b) = true := by simp [PyData.eqv]
theorem stl_shaped (ds : List S6) : SeqAt.shaped (.list (ds.map dSt)) = true := by
  obtain ⟨h1, h2, h3⟩ := dSt_all ds
  unfold SeqAt.shaped
  rw [PyData.canLay0, h1, Bool.true_and, PyData.depth]
  exact decide_eq_true (by omega)
theorem stl_eqv (ds : List S6) : PyData.eqv (.list (ds.map dSt)) (.list (ds.map dSt)) = true := by
  rw [PyData.eqv]
  exact (dSt_all ds).2.2
def sp_upright : Sp := fun vs H Q _ => ∃ (p : Addr) (d : S6), vs = [.ref p] ∧ StV H p d ∧ Q (.bl (decide (d.x1 * d.w2 = d.x2 * d.w1))) H
def sp_spans : Sp := fun vs H Q _ => ∃ (p q : Addr) (d : S6) (x y w : Int), vs = [.ref p, .ref q] ∧ StV H p d ∧ TB 1000 H q x y w ∧ Q (.bl (spansB d x w)) H
def sp_above : Sp := fun vs H Q _ => ∃ (l q : Addr) (ys : List V) (ds : List S6) (x y w : Int), vs = [.ref l, .ref q] ∧ H l = some (.lst ys) ∧ ys.length < 100000 ∧ StL H ys ds ∧ TB 1000 H q x y w ∧ ∀ H', Same H H' → Q (.int (cntAb ds x y w)) H'
def iv_ldiv (a b : Int) (H₀ : Hp) : St → Hp → Prop := fun σ H' => H' = H₀ ∧ ∃ x y : Int, σ = [some (.int x), some (.int y)] ∧ G x y = G a b
def sp_klowest : Sp := fun vs H Q _ => ∃ (n : Nat) (x y w : Int), vs = [.int x, .int y, .int w] ∧ n ≤ 8000 ∧ Bd3 n x y w ∧ 0 < w ∧ ∀ p H' a b c, Same H H' → PtH n H' p a b c → Q (.ref p) H'
def sp_kpoint : Sp := fun vs H Q _ => ∃ n k : Int, vs = [.int n, .int k] ∧ ∀ p H' a b c, Same H H' → PtH 60 H' p a b c → Q (.ref p) H'
def sp_kturn : Sp := fun vs H Q _ => ∃ (p q r : Addr) (x1 y1 w1 x2 y2 w2 x3 y3 w3 : Int), vs = [.ref p, .ref q, .ref r] ∧ TB 1000 H p x1 y1 w1 ∧ TB 1000 H q x2 y2 w2 ∧ TB 5000 H r x3 y3 w3 ∧ Q (.int (sgn (det3 x1 y1 w1 x2 y2 w2 x3 y3 w3))) H
def sp_kis_stretch : Sp := fun vs H Q _ => ∃ (s a b : Addr) (x1 y1 w1 x2 y2 w2 : Int), vs = [.ref s] ∧ H s = some (.tup [.ref a, .ref b]) ∧ PtH 1000 H a x1 y1 w1 ∧ PtH 1000 H b x2 y2 w2 ∧ bef x1 y1 w1 x2 y2 w2 = true ∧ Q (.bl true) H
def sp_kon : Sp := fun vs H Q _ => ∃ (p s a b : Addr) (x1 y1 w1 x2 y2 w2 x3 y3 w3 : Int), vs = [.ref p, .ref s] ∧ H s = some (.tup [.ref a, .ref b]) ∧ TB 1000 H a x1 y1 w1 ∧ TB 1000 H b x2 y2 w2 ∧ TB 1000 H p x3 y3 w3 ∧ Q (.bl (onB x1 y1 w1 x2 y2 w2 x3 y3 w3)) H
def sp_lies_on : Sp := fun vs H Q _ => ∃ (p s a b : Addr) (x1 y1 w1 x2 y2 w2 x3 y3 w3 : Int), vs = [.ref p, .ref s] ∧ H s = some (.tup [.ref a, .ref b]) ∧ TB 1000 H a x1 y1 w1 ∧ TB 1000 H b x2 y2 w2 ∧ TB 1000 H p x3 y3 w3 ∧ ∀ H', Same H H' → Q (.bl (onB x1 y1 w1 x2 y2 w2 x3 y3 w3)) H'
def Al : Nat → Hp → V → V → Prop
  | 0, _, _, _ => False
  | n + 1, H, x, y => (∃ i : Int, x = .int i ∧ y = .int i) ∨ ∃ (p q : Addr) (xs ys : List V), x = .ref p ∧ y = .ref q ∧ ((H p = some (.tup xs) ∧ H q = some (.tup ys)) ∨ (H p = some (.lst xs) ∧ H q = some (.lst ys))) ∧ xs.length = ys.length ∧ ys.length ≤ 1000 ∧ ∀ (j : Nat) (u v : V), xs[j]? = some u → ys[j]? = some v → Al n H u v
def sp_alike (n : Nat) : Sp := fun vs H Q _ => ∃ x y : V, vs = [x, y] ∧ Al n H x y ∧ Q (.bl true) H
theorem sp_alike_zero {vs : List V} {H : Hp} {Q : VK} {E : XK} (h : sp_alike 0 vs H Q E) : False := by
  obtain ⟨x, y, _, h, _⟩ := h
  exact h
theorem slice_is (x : Str) (l u : Option Int) : Txt.slice x l u = StrLaws.sliceText x l u := rfl
theorem slice_from1 (x : Str) (h : 1 ≤ x.cps.toList.length) : (Txt.slice x (some 1) none).cps.toList = x.cps.toList.drop 1 := by
  rw [slice_is, StrLaws.sliceText_from ⟨by decide, by omega⟩]
  show ((x.cps.toList.drop 1).take ((x.cps.toList.length : Int) - 1).toNat) = _
  exact List.take_of_length_le (by rw [List.length_drop]; omega)
theorem slice_to1 (x : Str) : (Txt.slice x none (some 1)).cps.toList = x.cps.toList.take 1 := by
  by_cases h : 1 ≤ x.cps.toList.length
  · rw [slice_is, StrLaws.sliceText_to ⟨by decide, by omega⟩]
    rfl
  · have e : x.cps.toList = [] := by
      cases hx : x.cps.toList with
      | nil => rfl
      | cons a r => rw [hx] at h; exact absurd (by simp) h
    have l := Txt.slice_le x none (some 1)
    have z : x.length = 0 := by
      show x.cps.size = 0
      rw [← Array.length_toList, e]
      rfl
    have z2 : (Txt.slice x none (some 1)).cps.size = 0 := by
      have : (Txt.slice x none (some 1)).length ≤ 0 := by rw [← z]; exact l
      exact Nat.le_zero.mp this
    rw [e]
    have : (Txt.slice x none (some 1)).cps = #[] := Array.size_eq_zero_iff.mp z2
    rw [this]
    rfl
theorem str_eq {x y : Str} : x = y ↔ x.cps.toList = y.cps.toList := by
  constructor
  · intro h; rw [h]
  · intro h; exact Str.ext' (Array.toList_inj.mp h)
theorem len_list (x : Str) : x.length = x.cps.toList.length := by
  show x.cps.size = _
  rw [Array.length_toList]
theorem starts_one (x : Str) (c : Nat) (y : Str) (hy : y.cps.toList = [c]) : Txt.startswith x y = decide (x.cps.toList.head? = some c) := by
  unfold Txt.startswith
  have ly : y.length = 1 := by rw [len_list, hy]; rfl
  rw [StrLaws.subAt_eq, ly, hy, List.drop_zero, len_list]
  cases e : x.cps.toList with
  | nil => simp
  | cons a r =>
    by_cases h : a = c
    · simp [h]
    · simp [h]
theorem mk_minus : (Str.ofString "-").cps.toList = [45] := by decide +kernel
theorem mk_nought : (Str.ofString "0").cps.toList = [48] := by decide +kernel
theorem mk_figs : (Str.ofString "0123456789").cps.toList = [48, 49, 50, 51, 52, 53, 54, 55, 56, 57] := by decide +kernel
theorem in_figs (c : Nat) : (!(Builtin.Str.occurrences (Str.ofString "0123456789") ⟨#[c]⟩ 0 (Str.ofString "0123456789").length 1).isEmpty) = decide (48 ≤ c ∧ c ≤ 57) := by
  rw [StrLaws.found_one, mk_figs]
  apply decide_eq_decide.mpr
  simp only [List.mem_cons, List.not_mem_nil, or_false]
  omega
def isFig (x : Str) : Bool := decide (x.cps.toList ≠ []) && decide (x.cps.toList.length ≤ 60) && x.cps.toList.all fun c => decide (48 ≤ c ∧ c ≤ 57)
def noMinus (x : Str) : Str := if Txt.startswith x (Str.ofString "-") = true then Txt.slice x (some 1) none else x
def wholeV (x : Str) : Option Int := if isFig (noMinus x) = false then none else if Txt.startswith (noMinus x) (Str.ofString "0") = true ∧ ¬ x = Str.ofString "0" then none else PySem.intText? x
def figV (x : Str) : Int := if x.cps.toList = [] ∨ 60 < x.cps.toList.length ∨ (x.cps.toList.head? = some 48 ∧ 1 < x.cps.toList.length) then -1 else if (x.cps.toList.all fun c => decide (48 ≤ c ∧ c ≤ 57)) = true then (NumText.digitsVal x.cps.toList : Int) else -1
theorem fold_ge (cs : List Nat) : ∀ a : Nat, a ≤ cs.foldl (fun acc c => acc * 10 + (c - 48)) a := by
  induction cs with
  | nil => exact fun a => Nat.le_refl _
  | cons c r ih => exact fun a => Nat.le_trans (by omega) (ih (a * 10 + (c - 48)))
theorem val_pos {c : Nat} {cs : List Nat} (h : 48 < c) : 0 < NumText.digitsVal (c :: cs) := by
  unfold NumText.digitsVal
  rw [List.foldl_cons]
  exact Nat.lt_of_lt_of_le (by omega) (fold_ge cs _)
theorem all_dig {cs : List Nat} : (cs.all fun c => decide (48 ≤ c ∧ c ≤ 57)) = true ↔ NumText.AllDigits cs := by
  rw [List.all_eq_true]
  constructor
  · exact fun h c hc => of_decide_eq_true (h c hc)
  · exact fun h c hc => decide_eq_true (h c hc)
theorem figV_int {x : Str} (h : 0 ≤ figV x) : PySem.intText? x = some (figV x) := by
  unfold figV at h ⊢
  split at h
  · omega
  · rename_i n
    rw [if_neg n]
    split at h
    · rename_i a
      rw [if_pos a]
      exact intText_digits (all_dig.mp a) (fun z => n (.inl z)) (by rw [len_list]; omega)
    · omega
theorem whole_plain {x : Str} (h : ¬ x.cps.toList.head? = some 45) : wholeV x = if figV x < 0 then none else some (figV x) := by
  have nm : noMinus x = x := by
    unfold noMinus
    rw [starts_one x 45 _ mk_minus, decide_eq_false h]
    rfl
  unfold wholeV
  rw [nm, starts_one x 48 _ mk_nought]
  have e0 : (x = Str.ofString "0") ↔ x.cps.toList = [48] := by rw [str_eq, mk_nought]
  by_cases hf : isFig x = false
  · rw [if_pos hf]
    have : figV x = -1 := by
      unfold isFig at hf
      unfold figV
      split
      · rfl
      · rename_i n
        split
        · rename_i a
          exfalso
          rw [a] at hf
          have n1 : x.cps.toList ≠ [] := fun z => n (.inl z)
          have n2 : x.cps.toList.length ≤ 60 := by omega
          rw [decide_eq_true n1, decide_eq_true n2] at hf
          cases hf
        · rfl
    rw [this, if_pos (by decide)]
  · rw [if_neg hf]
    have hf : isFig x = true := by simpa using hf
    unfold isFig at hf
    rw [Bool.and_eq_true, Bool.and_eq_true] at hf
    obtain ⟨⟨n1, n2⟩, a⟩ := hf
    have n1 := of_decide_eq_true n1
    have n2 := of_decide_eq_true n2
    by_cases c : x.cps.toList.head? = some 48 ∧ 1 < x.cps.toList.length
    · have fv : figV x = -1 := by unfold figV; rw [if_pos (.inr (.inr c))]
      rw [if_pos ⟨decide_eq_true c.1, fun z => by rw [e0] at z; rw [z] at c; exact absurd c.2 (by decide)⟩, fv, if_pos (by decide)]
    · have nc : ¬ (decide (x.cps.toList.head? = some 48) = true ∧ ¬ x = Str.ofString "0") := by
        rintro ⟨z1, z2⟩
        have z1 := of_decide_eq_true z1
        apply z2
        rw [e0]
        cases hx : x.cps.toList with
        | nil => exact absurd hx n1
        | cons d r =>
          rw [hx] at z1 c
          cases z1
          cases r with
          | nil => rfl
          | cons d2 r2 => exact absurd ⟨rfl, by simp⟩ c
      have fv : figV x = (NumText.digitsVal x.cps.toList : Int) := by
        unfold figV
        rw [if_neg (by rintro (z | z | z); exact n1 z; omega; exact c z), if_pos a]
      rw [if_neg nc, figV_int (by rw [fv]; omega), if_neg (by rw [fv]; omega)]
theorem whole_minus {x : Str} (h : x.cps.toList.head? = some 45) : wholeV x = if figV (noMinus x) ≤ 0 then none else some (-figV (noMinus x)) := by
  obtain ⟨cs, hx⟩ : ∃ cs, x.cps.toList = 45 :: cs := by
    cases hx : x.cps.toList with
    | nil => rw [hx] at h; cases h
    | cons d r => rw [hx] at h; cases h; exact ⟨r, rfl⟩
  have nm : (noMinus x).cps.toList = cs := by
    unfold noMinus
    rw [starts_one x 45 _ mk_minus, decide_eq_true h, if_pos rfl, slice_from1 x (by rw [hx]; simp), hx]
    rfl
  have ne : ¬ x = Str.ofString "0" := by
    rw [str_eq, mk_nought, hx]
    intro z
    cases z
  unfold wholeV
  rw [starts_one (noMinus x) 48 _ mk_nought]
  generalize noMinus x = y at *
  subst nm
  by_cases hf : isFig y = false
  · rw [if_pos hf]
    have : figV y = -1 := by
      unfold isFig at hf
      unfold figV
      split
      · rfl
      · rename_i n
        split
        · rename_i a
          exfalso
          rw [a] at hf
          have n1 : y.cps.toList ≠ [] := fun z => n (.inl z)
          have n2 : y.cps.toList.length ≤ 60 := by omega
          rw [decide_eq_true n1, decide_eq_true n2] at hf
          cases hf
        · rfl
    rw [this, if_pos (by decide)]
  · rw [if_neg hf]
    have hf : isFig y = true := by simpa using hf
    unfold isFig at hf
    rw [Bool.and_eq_true, Bool.and_eq_true] at hf
    obtain ⟨⟨n1, n2⟩, a⟩ := hf
    have n1 := of_decide_eq_true n1
    have n2 := of_decide_eq_true n2
    by_cases c : y.cps.toList.head? = some 48
    · rw [if_pos ⟨decide_eq_true c, ne⟩]
      have fv : figV y ≤ 0 := by
        unfold figV
        split
        · decide
        · rename_i n
          cases hy : y.cps.toList with
          | nil => exact absurd hy n1
          | cons d r =>
            rw [hy] at c n
            cases c
            cases r with
            | nil => decide
            | cons d2 r2 => exact absurd (.inr (.inr ⟨rfl, by simp⟩)) n
      rw [if_pos fv]
    · have fv : figV y = (NumText.digitsVal y.cps.toList : Int) := by
        unfold figV
        rw [if_neg (by rintro (z | z | z); exact n1 z; omega; exact c z.1), if_pos a]
      have pos : 0 < NumText.digitsVal y.cps.toList := by
        cases hy : y.cps.toList with
        | nil => exact absurd hy n1
        | cons d r =>
          rw [hy] at c a
          have := all_dig.mp a d (List.mem_cons_self ..)
          refine val_pos ?_
          rcases Nat.lt_or_eq_of_le this.1 with q | q
          · exact q
          · subst q; exact absurd rfl c
      rw [if_neg (fun z => c (of_decide_eq_true z.1)), if_neg (by rw [fv]; omega), fv]
      exact intText_neg hx (all_dig.mp a) n1 (by rw [len_list, hx, List.length_cons]; omega)
theorem figV_minus {x : Str} (h : x.cps.toList.head? = some 45) : figV x = -1 := by
  unfold figV
  split
  · rfl
  · split
    · rename_i a
      cases hx : x.cps.toList with
      | nil => rw [hx] at h; cases h
      | cons d r =>
        rw [hx] at h a
        cases h
        exact absurd (all_dig.mp a 45 (List.mem_cons_self ..)).1 (by decide)
    · rfl
theorem join_len (sep : Str) : ∀ (l : List Str), l.length ≤ (Str.join sep l).length + 1 ∨ sep.length = 0
  | [] => .inl (Nat.zero_le _)
  | [x] => .inl (by simp)
  | x :: y :: r => by
    rcases join_len sep (y :: r) with h | h
    · by_cases z : sep.length = 0
      · exact .inr z
      · refine .inl ?_
        show _ ≤ (x ++ sep ++ Str.join sep (y :: r)).length + 1
        rw [Str.length_append, Str.length_append]
        simp only [List.length_cons] at h ⊢
        omega
    · exact .inr h
theorem join_mem (sep : Str) : ∀ (l : List Str) (p : Str), p ∈ l → p.length ≤ (Str.join sep l).length
  | [], p, h => by cases h
  | [x], p, h => by
    have : p = x := by simpa using h
    rw [this]
    exact Nat.le_refl _
  | x :: y :: r, p, h => by
    show _ ≤ (x ++ sep ++ Str.join sep (y :: r)).length
    rw [Str.length_append, Str.length_append]
    rcases List.mem_cons.mp h with rfl | h
    · omega
    · have := join_mem sep (y :: r) p h
      omega
theorem split_len {x y : Str} (hy : y.length ≠ 0) : (Txt.split x y).length ≤ x.length + 1 := by
  have h := join_len y (Txt.split x y)
  rw [StrLaws.join_split] at h
  omega
theorem split_mem {x y p : Str} (h : p ∈ Txt.split x y) : p.length ≤ x.length := by
  have := join_mem y (Txt.split x y) p h
  rw [StrLaws.join_split] at this
  exact this
theorem split_ne (x y : Str) : Txt.split x y ≠ [] := by
  unfold Txt.split
  split
  · simp
  · split
    · simp
    · rw [StrLaws.partsBetween_eq]
      obtain ⟨p, r, e⟩ := StrLaws.partsFrom_ne x y.length 0 (Builtin.Str.occurrences x y 0 x.length (x.length + 1))
      rw [e]
      simp
theorem tyV_s {K : PySem.W.Frag} {H : Hp} {x : Str} : tyV K "str" (.str x) H = True := eq_true rfl
theorem scal_ss {i j : Str} : scal (.str i) (.str j) = true := rfl
theorem isi_is : isiB "int" "str" = false := by decide +kernel
theorem isi_ns : isiB "NoneType" "str" = false := by decide +kernel
theorem isi_ss : isiB "str" "str" = true := by decide +kernel
theorem isi_ts : isiB "tuple" "str" = false := by decide +kernel
theorem len_slash : (Str.ofString "/").length = 1 := by decide +kernel
theorem len_comma : (Str.ofString ",").length = 1 := by decide +kernel
def numV (x : Str) : Option (Int × Int) := match Txt.split x (Str.ofString "/") with
  | [a] => match wholeV a with
    | some t => some (t, 1)
    | none => none
  | [a, b] => match wholeV a, wholeV b with
    | some t, some u => if u < 2 ∨ ¬ G t u = 1 then none else some (t, u)
    | _, _ => none
  | _ => none
structure P3' where
  x : Int
  y : Int
  w : Int
def ptV (x : Str) : Option P3' := match Txt.split x (Str.ofString ",") with
  | [a, b] => match numV a, numV b with
    | some (p, q), some (r, s) => some ⟨ptX (p * s) (r * q) (q * s), ptY (p * s) (r * q) (q * s), ptW (p * s) (r * q) (q * s)⟩
    | _, _ => none
  | _ => none
def sp_row : Sp := fun vs H Q _ => ∃ x : Str, vs = [.str x] ∧ x.length ≤ 1000 ∧ ∀ H', Same H H' → Q (.bl (isFig x)) H'
def sp_rwhole (C : Addr) : Sp := fun vs H Q E => ∃ x : Str, vs = [.str x] ∧ x.length ≤ 1000 ∧ ((wholeV x = none ∧ ∀ H', Same H H' → E (.ref C) none H') ∨ ∃ n, wholeV x = some n ∧ ∀ H', Same H H' → Q (.int n) H')
def sp_rnum (C : Addr) : Sp := fun vs H Q E => ∃ x : Str, vs = [.str x] ∧ x.length ≤ 1000 ∧ ((numV x = none ∧ ∀ H', Same H H' → E (.ref C) none H') ∨ ∃ t u, numV x = some (t, u) ∧ ∀ p H', Same H H' → H' p = some (.tup [.int t, .int u]) → Q (.ref p) H')
def sp_rpoint (C : Addr) : Sp := fun vs H Q E => (∃ x Tx, vs = [x] ∧ tyF H x = some Tx ∧ isiB Tx "str" = false ∧ E (.ref C) none H) ∨ ∃ x : Str, vs = [.str x] ∧ x.length ≤ 1000 ∧ ((ptV x = none ∧ ∀ H', Same H H' → E (.ref C) none H') ∨ ∃ a, ptV x = some a ∧ ∀ p H', Same H H' → H' p = some (.tup [.int a.x, .int a.y, .int a.w]) → Q (.ref p) H')
def showV (t u : Int) : Str := if u = 1 then Str.ofString (toString t) else Str.ofString (toString t) ++ Str.ofString "/" ++ Str.ofString (toString u)
def sp_show : Sp := fun vs H Q _ => ∃ (p : Addr) (t u : Int), vs = [.ref p] ∧ H p = some (.tup [.int t, .int u]) ∧ t.natAbs < 2 ^ 200 ∧ u.natAbs < 2 ^ 200 ∧ Q (.str (showV t u)) H
theorem dig_lt (cs : List Nat) : ∀ a : Nat, NumText.AllDigits cs → cs.foldl (fun acc c => acc * 10 + (c - 48)) a < (a + 1) * 10 ^ cs.length := by
  induction cs with
  | nil => intro a _; simp
  | cons c r ih =>
    intro a h
    have h1 := h.head
    have := ih (a * 10 + (c - 48)) h.tail
    rw [List.foldl_cons, List.length_cons, Nat.pow_succ]
    refine Nat.lt_of_lt_of_le this ?_
    have e : (a + 1) * (10 ^ r.length * 10) = (a * 10 + 10) * 10 ^ r.length := by grind
    rw [e]
    exact Nat.mul_le_mul_right _ (by omega)
theorem figV_lt (x : Str) : (figV x).natAbs < 2 ^ 200 := by
  unfold figV
  split
  · decide
  · rename_i n
    split
    · rename_i a
      have := dig_lt x.cps.toList 0 (all_dig.mp a)
      have l : x.cps.toList.length ≤ 60 := by omega
      rw [Int.natAbs_natCast]
      refine Nat.lt_of_lt_of_le this ?_
      rw [Nat.zero_add, Nat.one_mul]
      exact Nat.le_trans (Nat.pow_le_pow_right (by decide) l) (by decide)
    · decide
theorem whole_lt {x : Str} {n : Int} (h : wholeV x = some n) : n.natAbs < 2 ^ 200 := by
  by_cases m : x.cps.toList.head? = some 45
  · rw [whole_minus m] at h
    split at h
    · cases h
    · cases h
      rw [Int.natAbs_neg]
      exact figV_lt _
  · rw [whole_plain m] at h
    split at h
    · cases h
    · cases h
      exact figV_lt _
theorem int_some {x : Str} (a : isFig (noMinus x) = true) : ¬ PySem.intText? x = none := by
  unfold isFig at a
  rw [Bool.and_eq_true, Bool.and_eq_true] at a
  obtain ⟨⟨a1, a2⟩, a3⟩ := a
  have a1 := of_decide_eq_true a1
  have a2 := of_decide_eq_true a2
  have a3 := all_dig.mp a3
  have ll := len_list x
  by_cases m : x.cps.toList.head? = some 45
  · obtain ⟨cs, hx⟩ : ∃ cs, x.cps.toList = 45 :: cs := by
      cases hx : x.cps.toList with
      | nil => rw [hx] at m; cases m
      | cons d r => rw [hx] at m; cases m; exact ⟨r, rfl⟩
    have nm : (noMinus x).cps.toList = cs := by
      unfold noMinus
      rw [starts_one x 45 _ mk_minus, decide_eq_true m, if_pos rfl, slice_from1 x (by rw [hx]; simp), hx]
      rfl
    rw [nm] at a1 a2 a3
    rw [intText_neg hx a3 a1 (by rw [ll, hx, List.length_cons]; omega)]
    exact fun z => by cases z
  · have nm : noMinus x = x := by
      unfold noMinus
      rw [starts_one x 45 _ mk_minus, decide_eq_false m]
      rfl
    rw [nm] at a1 a2 a3
    rw [intText_digits a3 a1 (by omega)]
    exact fun z => by cases z
theorem log_of {n : Nat} (h : n < 2 ^ 500) : n.log2 < 1920 := by
  by_cases z : n = 0
  · subst z
    decide
  · exact Nat.lt_trans ((Nat.log2_lt z).mpr h) (by decide)
theorem len_int {i : Int} (h : i.natAbs < 2 ^ 500) : (Str.ofString (toString i)).length ≤ 152 := by
  rw [PySem.ofString_length]
  exact PySem.int_text_length_le10 (k := 151) (by decide) (Nat.lt_of_lt_of_le h (by decide))
theorem lt5 {i : Int} (h : i.natAbs < 2 ^ 200) : i.natAbs < 2 ^ 500 := Nat.lt_of_lt_of_le h (by decide)
theorem len_int2 {i : Int} (h : i.natAbs < 2 ^ 200) : (Str.ofString (toString i)).length ≤ 62 := by
  rw [PySem.ofString_length]
  exact PySem.int_text_length_le10 (k := 61) (by decide) (Nat.lt_of_lt_of_le h (by decide))
theorem mul_ok {x : Str} {n : Int} (hx : x.length = 1) (h : 0 < n ∧ n < 100) : MulOk x n := by
  refine ⟨by simp; omega, fun _ _ => ?_, fun _ _ => ?_⟩
  · rw [hx]
    have : 1 ≤ ((2 : Int) ^ 63 - 1) / n := by
      rw [Int.le_ediv_iff_mul_le h.1]
      have : (2 : Int) ^ 63 = 9223372036854775808 := by decide
      omega
    omega
  · rw [hx, Nat.one_mul]
    have e : n.toNat < 100 := by omega
    generalize n.toNat = m at e
    revert m
    decide +kernel
def txt100 : V → Bool
  | .str x => decide (x.length ≤ 100)
  | _ => false
theorem txt_of {v : V} (h : txt100 v = true) : ∃ x : Str, v = .str x ∧ x.length ≤ 100 := by
  cases v with
  | str x => exact ⟨x, rfl, of_decide_eq_true h⟩
  | _ => cases h
theorem at_mod {vs : List V} (h : vs.length ≠ 0) (c : Int) : ∃ v, atI vs (c.fmod (vs.length : Int)) = some v ∧ v ∈ vs := by
  have h1 := Int.fmod_nonneg_of_pos c (b := (vs.length : Int)) (by omega)
  have h2 := Int.fmod_lt_of_pos c (b := (vs.length : Int)) (by omega)
  generalize c.fmod (vs.length : Int) = m at *
  obtain ⟨i, rfl⟩ := Int.eq_ofNat_of_zero_le h1
  have hi : i < vs.length := by omega
  exact ⟨vs[i], atI_nat (List.getElem?_eq_getElem hi), List.getElem_mem hi⟩
theorem odd_pick {vs : List V} {Q : VK} {H5 : Hp} (h : vs.length ≠ 0) (a : vs.all txt100 = true) (c : Int) (k : ∀ x : Str, x.length ≤ 100 → Q (.str x) H5) : ∃ v, atI vs (c.fmod (vs.length : Int)) = some v ∧ Q v H5 := by
  obtain ⟨v, hv, hm⟩ := at_mod h c
  obtain ⟨x, rfl, hx⟩ := txt_of (List.all_eq_true.mp a v hm)
  exact ⟨_, hv, k x hx⟩
theorem len_sl : (Str.ofString "/").length = 1 := by decide +kernel
theorem sz_of {n : Nat} (h : n ≤ 2000) : n ≤ sizeLine := Nat.le_trans h (by decide)
def sp_bd : Sp := fun vs H Q _ => ∃ c : Int, vs = [.int c] ∧ ∀ n : Int, 0 < n → n.natAbs < 2 ^ 200 → Q (.int n) H
def sp_size : Sp := fun vs H Q _ => ∃ c : Int, vs = [.int c] ∧ ∀ (n : Int) H', 10 ≤ n → n.natAbs < 2 ^ 200 → Same H H' → Q (.int n) H'
def sp_ntext : Sp := fun vs H Q _ => ∃ c : Int, vs = [.int c] ∧ 0 ≤ c ∧ ∀ (x : Str) H', x.length ≤ 220 → Same H H' → Q (.str x) H'
def sp_spoilt : Sp := fun vs H Q _ => ∃ (x : Str) (c : Int), vs = [.str x, .int c] ∧ x.length ≤ 450 ∧ 0 ≤ c ∧ ∀ y : Str, y.length ≤ 1000 → Q (.str y) H
def sp_odd : Sp := fun vs H Q _ => ∃ c : Int, vs = [.int c] ∧ ∀ (x : Str) H', x.length ≤ 100 → Same H H' → Q (.str x) H'
theorem cat_step {H0 : Hp} {p q : Addr} {xs zs : List V} {Q : VK} (hp : H0 p = some (.lst xs)) (hq : H0 q = none) (hl : xs.length + zs.length ≤ 60) (k : ∀ r H', Same H0 H' → H' r = some (.lst (xs ++ zs)) → Q (.ref r) H') : rCat (.ref p) (.ref q) (upd H0 q (.lst zs)) Q :=
  ⟨p, q, xs, zs, rfl, rfl, (same_new hq _) _ _ hp, upd_same, sz_of (by omega), fun r hr => k r _ ((same_new hq _).trans (same_new hr _)) upd_same⟩
def sp_lread (C : Addr) : Sp := fun vs H Q _ => (∃ x Tx, vs = [x] ∧ tyF H x = some Tx ∧ isiB Tx "str" = false ∧ ∀ H', Same H H' → Q (.str "none") H') ∨ ∃ x : Str, vs = [.str x] ∧ x.length ≤ 1000 ∧ ((ptV x = none ∧ ∀ H', Same H H' → Q (.str "none") H') ∨ ∃ a, ptV x = some a ∧ ∀ p H', Same H H' → H' p = some (.tup [.int a.x, .int a.y, .int a.w]) → Q (.ref p) H')
def sp_right : Sp := fun vs H Q _ => ∃ x : Str, vs = [.str x] ∧ x.length ≤ 1000 ∧ ∀ H', Same H H' → Q (.bl true) H'
def sp_figs : Sp := fun vs H Q _ => ∃ x : Str, vs = [.str x] ∧ x.length ≤ 1000 ∧ Q (.int (figV x)) H
def sp_ndiv : Sp := fun vs H Q _ => ∃ a b : Int, vs = [.int a, .int b] ∧ 0 ≤ a ∧ 0 ≤ b ∧ Q (.int (G a b)) H
def sp_lnum : Sp := fun vs H Q _ => ∃ x : Str, vs = [.str x] ∧ x.length ≤ 1000 ∧ ((numV x = none ∧ ∀ H', Same H H' → Q .non H') ∨ ∃ t u, numV x = some (t, u) ∧ ∀ p H', Same H H' → H' p = some (.tup [.int t, .int u]) → Q (.ref p) H')
def sp_lpt : Sp := fun vs H Q _ => ∃ x : Str, vs = [.str x] ∧ x.length ≤ 1000 ∧ ((ptV x = none ∧ ∀ H', Same H H' → Q .non H') ∨ ∃ a, ptV x = some a ∧ ∀ p H', Same H H' → H' p = some (.tup [.int a.x, .int a.y, .int a.w]) → Q (.ref p) H')
section
variable {P : Program} {w : World} {K : PySem.W.Frag} {mg : Str → Option Value} {base : Heap} {ad : Nat → Addr} {fd : Nat → FuncData} {ca : Nat → Addr}
theorem ok_is_whole (T : Txt K mg ad fd ca) : FnOk P w K mg base CX0 1 (ad 0) (fd 0) ["thing"] sp_whole := by
  refine T.is_whole.fn.ok sc_is_whole (fun vs H Q E h => ?_) (fun cdv A outer s H vs Q E hr h => ?_)
  · obtain ⟨i, rfl, _⟩ := h
    rfl
  obtain ⟨i, rfl, q⟩ := h
  have qpss_one := @pss_one
  have qps_ret := @ps_ret
  have qpe_and := @pe_and
  have qpe_callB := @pe_callB
  have qpa2 := @pa2
  have qpv := @pv
  have qpe_bltn := @pe_bltn
  have qpe_one := @pe_one
  have qpe_not := @pe_not
  generalize @L2.PE = QE, @L2.PT = QT, @L2.PW = QW, @L2.PA = QA, @L2.PS = QS, @L2.PSs = QSs, @L2.PG = QG, @L2.PGs = QGs, @L2.PI = QI, @L2.PO = QO, @L2.PIf = QIf at qpss_one qps_ret qpe_and qpe_callB qpa2 qpv qpe_bltn qpe_one qpe_not ⊢
  refine ⟨_,
    (qpss_one (qps_ret (qpe_and (qpe_callB (isiF call_isi_int) rfl T.b_isinstance bt_isinstance (qpa2 (qpv 0) ns_Name (qpe_bltn (v := .ty "int") rfl T.b_int bt_int rfl) ns_Name)) (qpe_one (qpe_not (qpe_callB (isiF call_isi_bool) rfl T.b_isinstance bt_isinstance (qpa2 (qpv 0) ns_Name (qpe_bltn (v := .ty "bool") rfl T.b_bool bt_bool rfl) ns_Name)))))))
    , ?_⟩
  clear  qpss_one qps_ret qpe_and qpe_callB qpa2 qpv qpe_bltn qpe_one qpe_not QE QT QW QA QS QSs QG QGs QI QO QIf
  simp only [tSeq, tNext, tRet, tRetN, tIfS, tAsg, gName, tDrop, tVar, tC, tOp, tUn, rI, rI0, rU, rEq, rNe, tTest, tB, tNot, tAnd, tOr, tAndV, tOrV, tNotV, tIf, tCB, tCall, tNil, tCons, tTup, tLst, gTup, gCons, gNil, L2.start, rIsi, rIxT, rIxL, cx_K, tyN_non, tyN_bl, tyN_int, tyN_str, isi_ii, isi_ib, isi_it, isi_il, isi_bi, isi_bb, isi_tt, isi_ni, isi_si, isi_ti, isi_li, isi_di, isi_ll, scal_ii, scal_bb, sz0, sz1, sz2, sz3, sz4, List.map_cons, List.map_nil, List.length_cons, List.length_nil, List.replicate, List.cons_append, List.nil_append, List.append_nil, List.getElem?_cons_zero, List.getElem?_cons_succ, List.set_cons_zero, List.set_cons_succ, Option.some.injEq, V.int.injEq, V.bl.injEq, V.ref.injEq, V.ty.injEq, List.cons.injEq, and_true, true_and, exists_eq_left, exists_eq_left', exists_and_left, exists_and_right, exists_eq, exists_eq', and_assoc, Nat.reduceAdd, Nat.reduceSub, Bool.not_true, Bool.not_false, Bool.false_eq_true, if_true, if_false, reduceIte, Nat.zero_add, decide_true, decide_false, selC, comp_K, tYes, Option.join_some, rIxTH, rIxLH, rLenH, rIsiF, at0, at1, at2, at3, at4, at5, at6, at7, at8, HO.tup.injEq, HO.lst.injEq, reduceCtorEq, false_or, or_false, tyF_non, tyF_bl, tyF_int, tyF_str, exists_const, Int.reduceAdd, Int.reduceMul, Int.reduceSub, gSub, rSetL, tSl, tPart, tNoPart, rSlH, upd_same, upd_upd, rIntB, rListH, tBM, tBM0, rAppend, rClear, tPar, gTupH]
  exact q
theorem ok_divisor (T : Txt K mg ad fd ca) : FnOk P w K mg base CX0 1 (ad 1) (fd 1) ["one", "other"] sp_divisor := by
  refine T.divisor.fn.ok sc_divisor (fun vs H Q E h => ?_) (fun cdv A outer s H vs Q E hr h => ?_)
  · obtain ⟨a, b, rfl, _⟩ := h
    rfl
  obtain ⟨a, b, rfl, q⟩ := h
  have qpss4 := @pss4
  have qps_set := @ps_set
  have qpe_callB := @pe_callB
  have qpa1 := @pa1
  have qpv := @pv
  have qps_while := @ps_while
  have qpt_cmpR := @pt_cmpR
  have qpe_int := @pe_int
  have qpss3 := @pss3
  have qpe_op := @pe_op
  have qps_ret := @ps_ret
  generalize @L2.PE = QE, @L2.PT = QT, @L2.PW = QW, @L2.PA = QA, @L2.PS = QS, @L2.PSs = QSs, @L2.PG = QG, @L2.PGs = QGs, @L2.PI = QI, @L2.PO = QO, @L2.PIf = QIf at qpss4 qps_set qpe_callB qpa1 qpv qps_while qpt_cmpR qpe_int qpss3 qpe_op qps_ret ⊢
  refine ⟨_,
    (qpss4
      (qps_set (i := 2) sc_divisor.nd rfl (Or.inl rfl) (qpe_callB call_abs rfl T.b_abs bt_abs (qpa1 (qpv 0) ns_Name)))
      (qps_set (i := 3) sc_divisor.nd rfl (Or.inl rfl) (qpe_callB call_abs rfl T.b_abs bt_abs (qpa1 (qpv 1) ns_Name)))
      (qps_while PassesOwn.never (qpt_cmpR op_ne (qpv 3) qpe_int (nomark _)) (qpss3
      (qps_set (i := 4) sc_divisor.nd rfl (Or.inl rfl) (qpe_op op_modN (qpv 2) (qpv 3)))
      (qps_set (i := 2) sc_divisor.nd rfl (Or.inl rfl) (qpv 3))
      (qps_set (i := 3) sc_divisor.nd rfl (Or.inl rfl) (qpv 4))))
      (qps_ret (qpv 2)))
    , ?_⟩
  clear  qpss4 qps_set qpe_callB qpa1 qpv qps_while qpt_cmpR qpe_int qpss3 qpe_op qps_ret QE QT QW QA QS QSs QG QGs QI QO QIf
  simp only [tSeq, tNext, tRet, tRetN, tIfS, tAsg, gName, tDrop, tVar, tC, tOp, tUn, rI, rI0, rU, rEq, rNe, tTest, tB, tNot, tAnd, tOr, tAndV, tOrV, tNotV, tIf, tCB, tCall, tNil, tCons, tTup, tLst, gTup, gCons, gNil, L2.start, rIsi, rIxT, rIxL, cx_K, tyN_non, tyN_bl, tyN_int, tyN_str, isi_ii, isi_ib, isi_it, isi_il, isi_bi, isi_bb, isi_tt, isi_ni, isi_si, isi_ti, isi_li, isi_di, isi_ll, scal_ii, scal_bb, sz0, sz1, sz2, sz3, sz4, List.map_cons, List.map_nil, List.length_cons, List.length_nil, List.replicate, List.cons_append, List.nil_append, List.append_nil, List.getElem?_cons_zero, List.getElem?_cons_succ, List.set_cons_zero, List.set_cons_succ, Option.some.injEq, V.int.injEq, V.bl.injEq, V.ref.injEq, V.ty.injEq, List.cons.injEq, and_true, true_and, exists_eq_left, exists_eq_left', exists_and_left, exists_and_right, exists_eq, exists_eq', and_assoc, Nat.reduceAdd, Nat.reduceSub, Bool.not_true, Bool.not_false, Bool.false_eq_true, if_true, if_false, reduceIte, Nat.zero_add, decide_true, decide_false]
  refine while_by (iv_divisor a b H) (fun σ _ => (getI σ 3).toNat) ⟨rfl, _, _, _, rfl, by split <;> omega, by split <;> omega, G_abs a b⟩ ?_
    (fun σ H Q Q' m h => by obtain ⟨v, e, s, k, e2, q⟩ := h; exact ⟨v, e, s, k, e2, m _ _ q⟩)
  rintro σ H' ⟨rfl, x, y, r, rfl, hx, hy, e⟩
  simp only [tSeq, tNext, tRet, tRetN, tIfS, tAsg, gName, tDrop, tVar, tC, tOp, tUn, rI, rI0, rU, rEq, rNe, tTest, tB, tNot, tAnd, tOr, tAndV, tOrV, tNotV, tIf, tCB, tCall, tNil, tCons, tTup, tLst, gTup, gCons, gNil, L2.start, rIsi, rIxT, rIxL, cx_K, tyN_non, tyN_bl, tyN_int, tyN_str, isi_ii, isi_ib, isi_it, isi_il, isi_bi, isi_bb, isi_tt, isi_ni, isi_si, isi_ti, isi_li, isi_di, isi_ll, scal_ii, scal_bb, sz0, sz1, sz2, sz3, sz4, List.map_cons, List.map_nil, List.length_cons, List.length_nil, List.replicate, List.cons_append, List.nil_append, List.append_nil, List.getElem?_cons_zero, List.getElem?_cons_succ, List.set_cons_zero, List.set_cons_succ, Option.some.injEq, V.int.injEq, V.bl.injEq, V.ref.injEq, V.ty.injEq, List.cons.injEq, and_true, true_and, exists_eq_left, exists_eq_left', exists_and_left, exists_and_right, exists_eq, exists_eq', and_assoc, Nat.reduceAdd, Nat.reduceSub, Bool.not_true, Bool.not_false, Bool.false_eq_true, if_true, if_false, reduceIte, Nat.zero_add, decide_true, decide_false]
  refine ite2 (fun c => ?_) (fun c => ?_)
  · have hy0 : 0 < y := by
      rcases Int.lt_or_eq_of_le hy with z | z
      · exact z
      · subst z; simp at c
    obtain ⟨h1, h2, h3⟩ := turn e hy0
    exact ⟨by omega, ⟨rfl, _, _, _, rfl, h1, h2, h3⟩, less hy0⟩
  · have hy0 : y = 0 := by simpa using c
    rw [← e, ← G_zero hx hy0] at q
    exact q
theorem ok_point (T : Txt K mg ad fd ca) : FnOk P w K mg base CX0 2 (ad 2) (fd 2) ["x", "y", "w"] sp_pointI := by
  refine T.point.fn.ok sc_point (fun vs H Q E h => ?_) (fun cdv A outer s H vs Q E hr h => ?_)
  · obtain ⟨a, b, w, rfl, _⟩ := h
    rfl
  obtain ⟨a, b, w, rfl, hb, hz, q⟩ := h
  have qpss5 := @pss5
  have qps_if := @ps_if
  have qPWpt := @PW.pt
  have qpw_or := @pw_or
  have qpt_not := @pt_not
  have qpt_val := @pt_val
  have qpe_call := @pe_call
  have qpa1 := @pa1
  have qpv := @pv
  have qpw_or1 := @pw_or1
  have qpss_one := @pss_one
  have qps_never := @ps_never
  have qpss_nil := @pss_nil
  have qpt_cmpR := @pt_cmpR
  have qpe_int := @pe_int
  have qps_set := @ps_set
  have qpa2 := @pa2
  have qpe_un := @pe_un
  have qps_ret := @ps_ret
  have qpe_tup := @pe_tup
  have qpa3 := @pa3
  have qpe_op := @pe_op
  generalize @L2.PE = QE, @L2.PT = QT, @L2.PW = QW, @L2.PA = QA, @L2.PS = QS, @L2.PSs = QSs, @L2.PG = QG, @L2.PGs = QGs, @L2.PI = QI, @L2.PO = QO, @L2.PIf = QIf at qpss5 qps_if qPWpt qpw_or qpt_not qpt_val qpe_call qpa1 qpv qpw_or1 qpss_one qps_never qpss_nil qpt_cmpR qpe_int qps_set qpa2 qpe_un qps_ret qpe_tup qpa3 qpe_op ⊢
  refine ⟨_,
    (qpss5
      (qps_if (qPWpt (qpw_or (qpt_not (qpt_val (qpe_call (ok_is_whole T) (hr.mono (by decide)) rfl T.is_whole.mg T.is_whole.fn.kp T.is_whole.bn .nil pass0 (qpa1 (qpv 0) ns_Name)))) (qpw_or (qpt_not (qpt_val (qpe_call (ok_is_whole T) (hr.mono (by decide)) rfl T.is_whole.mg T.is_whole.fn.kp T.is_whole.bn .nil pass0 (qpa1 (qpv 1) ns_Name)))) (qpw_or1 (qpt_not (qpt_val (qpe_call (ok_is_whole T) (hr.mono (by decide)) rfl T.is_whole.mg T.is_whole.fn.kp T.is_whole.bn .nil pass0 (qpa1 (qpv 2) ns_Name)))))))) (qpss_one qps_never) qpss_nil)
      (qps_if (qpt_cmpR op_eq (qpv 2) qpe_int (nomark _)) (qpss_one qps_never) qpss_nil)
      (qps_set (i := 3) sc_point.nd rfl (Or.inl rfl) (qpe_call (ok_divisor T) (hr.mono (by decide)) rfl T.divisor.mg T.divisor.fn.kp T.divisor.bn .nil pass0 (qpa2 (qpe_call (ok_divisor T) (hr.mono (by decide)) rfl T.divisor.mg T.divisor.fn.kp T.divisor.bn .nil pass0 (qpa2 (qpv 2) ns_Name (qpv 0) ns_Name)) ns_Call (qpv 1) ns_Name)))
      (qps_if (qpt_cmpR op_lt (qpv 2) qpe_int (nomark _)) (qpss_one (qps_set (i := 3) sc_point.nd rfl (Or.inl rfl) (qpe_un un_neg (qpv 3)))) qpss_nil)
      (qps_ret (qpe_tup (qpa3 (qpe_op op_fdivB (qpv 0) (qpv 3)) ns_BinOp (qpe_op op_fdivB (qpv 1) (qpv 3)) ns_BinOp (qpe_op op_fdivB (qpv 2) (qpv 3)) ns_BinOp))))
    , ?_⟩
  clear  qpss5 qps_if qPWpt qpw_or qpt_not qpt_val qpe_call qpa1 qpv qpw_or1 qpss_one qps_never qpss_nil qpt_cmpR qpe_int qps_set qpa2 qpe_un qps_ret qpe_tup qpa3 qpe_op QE QT QW QA QS QSs QG QGs QI QO QIf
  simp only [sp_whole, sp_divisor, tSeq, tNext, tRet, tRetN, tIfS, tAsg, gName, tDrop, tVar, tC, tOp, tUn, rI, rI0, rU, rEq, rNe, tTest, tB, tNot, tAnd, tOr, tAndV, tOrV, tNotV, tIf, tCB, tCall, tNil, tCons, tTup, tLst, gTup, gCons, gNil, L2.start, rIsi, rIxT, rIxL, cx_K, tyN_non, tyN_bl, tyN_int, tyN_str, isi_ii, isi_ib, isi_it, isi_il, isi_bi, isi_bb, isi_tt, isi_ni, isi_si, isi_ti, isi_li, isi_di, isi_ll, scal_ii, scal_bb, sz0, sz1, sz2, sz3, sz4, List.map_cons, List.map_nil, List.length_cons, List.length_nil, List.replicate, List.cons_append, List.nil_append, List.append_nil, List.getElem?_cons_zero, List.getElem?_cons_succ, List.set_cons_zero, List.set_cons_succ, Option.some.injEq, V.int.injEq, V.bl.injEq, V.ref.injEq, V.ty.injEq, List.cons.injEq, and_true, true_and, exists_eq_left, exists_eq_left', exists_and_left, exists_and_right, exists_eq, exists_eq', and_assoc, Nat.reduceAdd, Nat.reduceSub, Bool.not_true, Bool.not_false, Bool.false_eq_true, if_true, if_false, reduceIte, Nat.zero_add, decide_true, decide_false, selC, comp_K, tYes, Option.join_some, rIxTH, rIxLH, rLenH, rIsiF, at0, at1, at2, at3, at4, at5, at6, at7, at8, HO.tup.injEq, HO.lst.injEq, reduceCtorEq, false_or, or_false, tyF_non, tyF_bl, tyF_int, tyF_str, exists_const, Int.reduceAdd, Int.reduceMul, Int.reduceSub, gSub, rSetL, tSl, tPart, tNoPart, rSlH, upd_same, upd_upd, rIntB, rListH, tBM, tBM0, rAppend, rClear, tPar, gTupH]
  have hg : (fac3 a b w).natAbs < 2 ^ 8000 := Nat.lt_of_le_of_lt (fac3_le hb) hz
  have hn := fac3_ne (x := a) (y := b) hb
  refine ite2 (fun c => absurd (of_decide_eq_true c) hb) (fun _ => ite2 (fun c => ?_) (fun c => ?_))
  · have ef : -G (G w a) b = fac3 a b w := (if_pos (of_decide_eq_true c)).symm
    rw [ef]
    exact ⟨cdivb hn hg, cdivb hn hg, cdivb hn hg, fun p hp => q p _ (same_new hp _) upd_same⟩
  · have ef : G (G w a) b = fac3 a b w := (if_neg fun z => c (decide_eq_true z)).symm
    rw [ef]
    exact ⟨cdivb hn hg, cdivb hn hg, cdivb hn hg, fun p hp => q p _ (same_new hp _) upd_same⟩
theorem ok_is_row_of_figures (T : Txt K mg ad fd ca) : FnOk P w K mg base CX0 1 (ad 6) (fd 6) ["text"] sp_row := by
  refine T.is_row_of_figures.fn.ok sc_is_row_of_figures (fun vs H Q E h => ?_) (fun cdv A outer s H vs Q E hr h => ?_)
  · obtain ⟨x, rfl, _⟩ := h
    rfl
  obtain ⟨x, rfl, hx, k⟩ := h
  have qpss2 := @pss2
  have qps_if := @ps_if
  have qPWpt := @PW.pt
  have qpw_or := @pw_or
  have qpt_cmpR := @pt_cmpR
  have qpv := @pv
  have qpe_str := @pe_str
  have qpw_or1 := @pw_or1
  have qpe_callB := @pe_callB
  have qpa1 := @pa1
  have qpe_globI := @pe_globI
  have qpss_one := @pss_one
  have qps_ret := @ps_ret
  have qpe_bl := @pe_bl
  have qpss_nil := @pss_nil
  have qpe_comp := @pe_comp
  unfold L2.CompBody at qpe_comp
  have qpi_str := @pi_str
  have qpg_name := @pg_name
  have qpif_nil := @pif_nil
  have qpe_cmpR := @pe_cmpR
  have qpe_globS := @pe_globS
  generalize @L2.PE = QE, @L2.PT = QT, @L2.PW = QW, @L2.PA = QA, @L2.PS = QS, @L2.PSs = QSs, @L2.PG = QG, @L2.PGs = QGs, @L2.PI = QI, @L2.PO = QO, @L2.PIf = QIf at qpss2 qps_if qPWpt qpw_or qpt_cmpR qpv qpe_str qpw_or1 qpe_callB qpa1 qpe_globI qpss_one qps_ret qpe_bl qpss_nil qpe_comp qpi_str qpg_name qpif_nil qpe_cmpR qpe_globS ⊢
  refine ⟨_,
    (qpss2
      (qps_if (qPWpt (qpw_or (qpt_cmpR op_eq (qpv 0) qpe_str (nomark _)) (qpw_or1 (qpt_cmpR op_gt (qpe_callB call_len_str rfl T.b_len bt_len (qpa1 (qpv 0) ns_Name)) (qpe_globI rfl T.g_MOST_FIGURES) (nomark _))))) (qpss_one (qps_ret qpe_bl)) qpss_nil)
      (qps_ret (qpe_callB (call_all rfl) rfl T.b_all bt_all (qpa1 (qpe_comp (dsc := defScope s_is_row_of_figures) (N := ["text"]) (own := ["sign"]) (ix := []) rfl rfl rfl ⟨rfl, by decide +kernel, by decide +kernel, by decide +kernel, by decide +kernel⟩ (qpi_str (qpv 0)) (fun cl C fp s2 H2 xe => ⟨(qpg_name (i := 0) (show List.Nodup (["sign"] : List Str) from by decide +kernel) rfl (Or.inl rfl)), qpif_nil, (qpe_cmpR op_in_str (qpv 0) (qpe_globS rfl T.g_FIGURES) rfl)⟩)) ns_ListComp))))
    , ?_⟩
  clear  qpss2 qps_if qPWpt qpw_or qpt_cmpR qpv qpe_str qpw_or1 qpe_callB qpa1 qpe_globI qpss_one qps_ret qpe_bl qpss_nil qpe_comp qpi_str qpg_name qpif_nil qpe_cmpR qpe_globS QE QT QW QA QS QSs QG QGs QI QO QIf
  simp only [iStr, rSplit, rStarts, rIntT, rSlS, rMulS, rAll, rIxS, tyV_s, scal_ss, V.str.injEq, tSeq, tNext, tRet, tRetN, tIfS, tAsg, gName, tDrop, tVar, tC, tOp, tUn, rI, rI0, rU, rEq, rNe, tTest, tB, tNot, tAnd, tOr, tAndV, tOrV, tNotV, tIf, tCB, tCall, tNil, tCons, tTup, tLst, gTup, gCons, gNil, L2.start, rIsi, rIxT, rIxL, cx_K, tyN_non, tyN_bl, tyN_int, tyN_str, isi_ii, isi_ib, isi_it, isi_il, isi_bi, isi_bb, isi_tt, isi_ni, isi_si, isi_ti, isi_li, isi_di, isi_ll, scal_ii, scal_bb, sz0, sz1, sz2, sz3, sz4, List.map_cons, List.map_nil, List.length_cons, List.length_nil, List.replicate, List.cons_append, List.nil_append, List.append_nil, List.getElem?_cons_zero, List.getElem?_cons_succ, List.set_cons_zero, List.set_cons_succ, Option.some.injEq, V.int.injEq, V.bl.injEq, V.ref.injEq, V.ty.injEq, List.cons.injEq, and_true, true_and, exists_eq_left, exists_eq_left', exists_and_left, exists_and_right, exists_eq, exists_eq', and_assoc, Nat.reduceAdd, Nat.reduceSub, Bool.not_true, Bool.not_false, Bool.false_eq_true, if_true, if_false, reduceIte, Nat.zero_add, decide_true, decide_false, selC, comp_K, tYes, Option.join_some, rIxTH, rIxLH, rLenH, rIsiF, at0, at1, at2, at3, at4, at5, at6, at7, at8, HO.tup.injEq, HO.lst.injEq, reduceCtorEq, false_or, or_false, tyF_non, tyF_bl, tyF_int, tyF_str, exists_const, Int.reduceAdd, Int.reduceMul, Int.reduceSub, gSub, rSetL, tSl, tPart, tNoPart, rSlH, upd_same, upd_upd, rIntB, rListH, tBM, tBM0, rAppend, rClear, tPar, gTupH]
  have ll := len_list x
  have e0 : (x = Str.ofString "") ↔ x.cps.toList = [] := by rw [str_eq, show (Str.ofString "").cps.toList = [] from by decide +kernel]
  refine ite2 (fun c => ?_) (fun c => ⟨Nat.le_trans hx (by decide), ite2 (fun c2 => ?_) (fun c2 => ?_)⟩)
  · have z := k H (.refl _)
    rw [show isFig x = false from by unfold isFig; rw [decide_eq_false (fun n => n (e0.mp (of_decide_eq_true c)))]; rfl] at z
    exact z
  · have z := k H (.refl _)
    have c2' := of_decide_eq_true c2
    rw [show isFig x = false from by unfold isFig; rw [decide_eq_false (p := x.cps.toList.length ≤ 60) (by omega), Bool.and_false]; rfl] at z
    exact z
  · have n1 : x.cps.toList ≠ [] := fun z => c (decide_eq_true (e0.mpr z))
    have n2 : x.cps.toList.length ≤ 60 := by
      have : ¬ (60 : Int) < (x.length : Int) := fun z => c2 (decide_eq_true z)
      omega
    refine tComp_mk ?_
    simp only [iStr, rSplit, rStarts, rIntT, rSlS, rMulS, rAll, rIxS, tyV_s, scal_ss, V.str.injEq, tSeq, tNext, tRet, tRetN, tIfS, tAsg, gName, tDrop, tVar, tC, tOp, tUn, rI, rI0, rU, rEq, rNe, tTest, tB, tNot, tAnd, tOr, tAndV, tOrV, tNotV, tIf, tCB, tCall, tNil, tCons, tTup, tLst, gTup, gCons, gNil, L2.start, rIsi, rIxT, rIxL, cx_K, tyN_non, tyN_bl, tyN_int, tyN_str, isi_ii, isi_ib, isi_it, isi_il, isi_bi, isi_bb, isi_tt, isi_ni, isi_si, isi_ti, isi_li, isi_di, isi_ll, scal_ii, scal_bb, sz0, sz1, sz2, sz3, sz4, List.map_cons, List.map_nil, List.length_cons, List.length_nil, List.replicate, List.cons_append, List.nil_append, List.append_nil, List.getElem?_cons_zero, List.getElem?_cons_succ, List.set_cons_zero, List.set_cons_succ, Option.some.injEq, V.int.injEq, V.bl.injEq, V.ref.injEq, V.ty.injEq, List.cons.injEq, and_true, true_and, exists_eq_left, exists_eq_left', exists_and_left, exists_and_right, exists_eq, exists_eq', and_assoc, Nat.reduceAdd, Nat.reduceSub, Bool.not_true, Bool.not_false, Bool.false_eq_true, if_true, if_false, reduceIte, Nat.zero_add, decide_true, decide_false, selC, comp_K, tYes, Option.join_some, rIxTH, rIxLH, rLenH, rIsiF, at0, at1, at2, at3, at4, at5, at6, at7, at8, HO.tup.injEq, HO.lst.injEq, reduceCtorEq, false_or, or_false, tyF_non, tyF_bl, tyF_int, tyF_str, exists_const, Int.reduceAdd, Int.reduceMul, Int.reduceSub, gSub, rSetL, tSl, tPart, tNoPart, rSlH, upd_same, upd_upd, rIntB, rListH, tBM, tBM0, rAppend, rClear, tPar, gTupH]
    intro D hD
    refine comp_str (fun i ys H' => Same H H' ∧ H' D = some (.lst ys) ∧ ys = (x.cps.toList.take i).map fun c => V.bl (decide (48 ≤ c ∧ c ≤ 57))) ⟨same_new hD _, upd_same, rfl⟩ ?_ ?_
    · rintro i ys H2 c hi hc ⟨g2, hD2, rfl⟩
      simp only [iStr, rSplit, rStarts, rIntT, rSlS, rMulS, rAll, rIxS, tyV_s, scal_ss, V.str.injEq, tSeq, tNext, tRet, tRetN, tIfS, tAsg, gName, tDrop, tVar, tC, tOp, tUn, rI, rI0, rU, rEq, rNe, tTest, tB, tNot, tAnd, tOr, tAndV, tOrV, tNotV, tIf, tCB, tCall, tNil, tCons, tTup, tLst, gTup, gCons, gNil, L2.start, rIsi, rIxT, rIxL, cx_K, tyN_non, tyN_bl, tyN_int, tyN_str, isi_ii, isi_ib, isi_it, isi_il, isi_bi, isi_bb, isi_tt, isi_ni, isi_si, isi_ti, isi_li, isi_di, isi_ll, scal_ii, scal_bb, sz0, sz1, sz2, sz3, sz4, List.map_cons, List.map_nil, List.length_cons, List.length_nil, List.replicate, List.cons_append, List.nil_append, List.append_nil, List.getElem?_cons_zero, List.getElem?_cons_succ, List.set_cons_zero, List.set_cons_succ, Option.some.injEq, V.int.injEq, V.bl.injEq, V.ref.injEq, V.ty.injEq, List.cons.injEq, and_true, true_and, exists_eq_left, exists_eq_left', exists_and_left, exists_and_right, exists_eq, exists_eq', and_assoc, Nat.reduceAdd, Nat.reduceSub, Bool.not_true, Bool.not_false, Bool.false_eq_true, if_true, if_false, reduceIte, Nat.zero_add, decide_true, decide_false, selC, comp_K, tYes, Option.join_some, rIxTH, rIxLH, rLenH, rIsiF, at0, at1, at2, at3, at4, at5, at6, at7, at8, HO.tup.injEq, HO.lst.injEq, reduceCtorEq, false_or, or_false, tyF_non, tyF_bl, tyF_int, tyF_str, exists_const, Int.reduceAdd, Int.reduceMul, Int.reduceSub, gSub, rSetL, tSl, tPart, tNoPart, rSlH, upd_same, upd_upd, rIntB, rListH, tBM, tBM0, rAppend, rClear, tPar, gTupH]
      rw [in_figs]
      have hc' : x.cps.toList[i]? = some c := by rw [Array.getElem?_toList]; exact hc
      refine cw_put hi hD2 (Nat.lt_of_le_of_lt (show _ ≤ 60 by rw [List.length_map, List.length_take]; omega) (by decide)) ⟨same_put g2 hD, upd_same, ?_⟩
      rw [List.take_add_one, hc', List.map_append]
      rfl
    · rintro ys H2 ⟨g2, hD2, e⟩
      rw [← Array.length_toList, List.take_length] at e
      refine ⟨D, rfl, x.cps.toList.map fun c => decide (48 ≤ c ∧ c ≤ 57), by rw [hD2, e, List.map_map]; rfl, ?_⟩
      have z := k H2 g2
      unfold isFig at z
      rw [decide_eq_true n1, decide_eq_true n2, Bool.true_and, Bool.true_and] at z
      rw [List.all_map]
      exact z
theorem ok_read_whole (T : Txt K mg ad fd ca) : FnOk P w K mg base (CXr P w) 2 (ad 5) (fd 5) ["text"] (sp_rwhole (ca 5)) := by
  refine T.read_whole.fn.okX sc_read_whole (fun vs H Q E h => ?_) (fun cdv A outer s H vs Q E hr h => ?_)
  · obtain ⟨x, rfl, _⟩ := h
    rfl
  obtain ⟨x, rfl, hx, h⟩ := h
  have qpss4 := @pss4
  have qps_set := @ps_set
  have qpe_ifExp := @pe_ifExp
  have qpt_val := @pt_val
  have qpe_bm := @pe_bm
  have qpv := @pv
  have qpa1 := @pa1
  have qpe_str := @pe_str
  have qpe_slice := @pe_slice
  have qpo_some := @po_some
  have qpe_int := @pe_int
  have qpo_none := @po_none
  have qps_if := @ps_if
  have qpt_not := @pt_not
  have qpe_call := @pe_call
  have qpss_one := @pss_one
  have qps_raise := @ps_raise
  have qpss_nil := @pss_nil
  have qPWpt := @PW.pt
  have qpw_and := @pw_and
  have qpw_and1 := @pw_and1
  have qpt_cmpR := @pt_cmpR
  have qps_ret := @ps_ret
  have qpe_callTy := @pe_callTy
  generalize @L2.PE = QE, @L2.PT = QT, @L2.PW = QW, @L2.PA = QA, @L2.PS = QS, @L2.PSs = QSs, @L2.PG = QG, @L2.PGs = QGs, @L2.PI = QI, @L2.PO = QO, @L2.PIf = QIf at qpss4 qps_set qpe_ifExp qpt_val qpe_bm qpv qpa1 qpe_str qpe_slice qpo_some qpe_int qpo_none qps_if qpt_not qpe_call qpss_one qps_raise qpss_nil qPWpt qpw_and qpw_and1 qpt_cmpR qps_ret qpe_callTy ⊢
  refine ⟨_,
    (qpss4
      (qps_set (i := 1) sc_read_whole.nd rfl (Or.inl rfl) (qpe_ifExp (qpt_val (qpe_bm PySem.F.plainAttrs_str PySem.F.slot_str_startswith PySem.F.type_str_startswith mt_starts (qpv 0) (qpa1 qpe_str ns_Constant))) (qpe_slice sl_str (qpv 0) (qpo_some qpe_int) qpo_none) (qpv 0)))
      (qps_if (qpt_not (qpt_val (qpe_call (ok_is_row_of_figures T) (hr.mono (by decide)) rfl T.is_row_of_figures.mg T.is_row_of_figures.fn.kp T.is_row_of_figures.bn .nil pass0 (qpa1 (qpv 1) ns_Name)))) (qpss_one (qps_raise raises_cx hr.hd T.xc_NoText rfl T.x_NoText (qpa1 qpe_str ns_Constant))) qpss_nil)
      (qps_if (qPWpt (qpw_and (qpt_val (qpe_bm PySem.F.plainAttrs_str PySem.F.slot_str_startswith PySem.F.type_str_startswith mt_starts (qpv 1) (qpa1 qpe_str ns_Constant))) (qpw_and1 (qpt_cmpR op_ne (qpv 0) qpe_str (nomark _))))) (qpss_one (qps_raise raises_cx hr.hd T.xc_NoText rfl T.x_NoText (qpa1 qpe_str ns_Constant))) qpss_nil)
      (qps_ret (qpe_callTy call_intT rfl T.b_int bt_int (qpa1 (qpv 0) ns_Name))))
    , ?_⟩
  clear  qpss4 qps_set qpe_ifExp qpt_val qpe_bm qpv qpa1 qpe_str qpe_slice qpo_some qpe_int qpo_none qps_if qpt_not qpe_call qpss_one qps_raise qpss_nil qPWpt qpw_and qpw_and1 qpt_cmpR qps_ret qpe_callTy QE QT QW QA QS QSs QG QGs QI QO QIf
  have ll := len_list x
  have key : ∀ fig, fig = noMinus x → ∀ H1, Same H H1 → (if (!isFig fig) = true then E (.ref (ca 5)) none H1 else if Txt.startswith fig (Str.ofString "0") = true then (if (!decide (x = Str.ofString "0")) = true then E (.ref (ca 5)) none H1 else ∃ n, PySem.intText? x = some n ∧ x.length ≤ 640 ∧ Q (.int n) H1) else ∃ n, PySem.intText? x = some n ∧ x.length ≤ 640 ∧ Q (.int n) H1) := by
    rintro fig rfl H1 g1
    have lx : isFig (noMinus x) = true → x.length ≤ 640 := fun a => by
      unfold isFig at a
      rw [Bool.and_eq_true, Bool.and_eq_true] at a
      have a2 := of_decide_eq_true a.1.2
      unfold noMinus at a2
      split at a2
      · rename_i z
        rw [starts_one x 45 _ mk_minus] at z
        have z := of_decide_eq_true z
        have l1 : 1 ≤ x.cps.toList.length := by
          cases hx : x.cps.toList with
          | nil => rw [hx] at z; cases z
          | cons d r => simp
        rw [slice_from1 x l1, List.length_drop] at a2
        omega
      · omega
    unfold wholeV at h
    by_cases f : isFig (noMinus x) = false
    · rw [if_pos f] at h
      rcases h with ⟨_, hE⟩ | ⟨n, hn, _⟩
      · rw [f]
        exact iteT (hE H1 g1)
      · cases hn
    · have ft : isFig (noMinus x) = true := by simpa using f
      rw [if_neg f] at h
      rw [ft]
      refine iteF ?_
      by_cases z : Txt.startswith (noMinus x) (Str.ofString "0") = true
      · rw [if_pos z]
        by_cases y : x = Str.ofString "0"
        · rw [if_neg (fun q => q.2 y)] at h
          rw [decide_eq_true y]
          refine iteF ?_
          rcases h with ⟨hn, hE⟩ | ⟨n, hn, hq⟩
          · rw [y] at hn
            exact absurd hn (by decide +kernel)
          · exact ⟨n, hn, lx ft, hq H1 g1⟩
        · rw [if_pos ⟨z, y⟩] at h
          rw [decide_eq_false y]
          refine iteT ?_
          rcases h with ⟨hn, hE⟩ | ⟨n, hn, hq⟩
          · exact hE H1 g1
          · cases hn
      · rw [if_neg z]
        rw [if_neg (fun q => z q.1)] at h
        rcases h with ⟨hn, hE⟩ | ⟨n, hn, hq⟩
        · exact absurd hn (int_some ft)
        · exact ⟨n, hn, lx ft, hq H1 g1⟩
  simp only [tRaise, iStr, rSplit, rStarts, rIntT, rSlS, rMulS, rAll, rIxS, tyV_s, scal_ss, V.str.injEq, tSeq, tNext, tRet, tRetN, tIfS, tAsg, gName, tDrop, tVar, tC, tOp, tUn, rI, rI0, rU, rEq, rNe, tTest, tB, tNot, tAnd, tOr, tAndV, tOrV, tNotV, tIf, tCB, tCall, tNil, tCons, tTup, tLst, gTup, gCons, gNil, L2.start, rIsi, rIxT, rIxL, cx_K, tyN_non, tyN_bl, tyN_int, tyN_str, isi_ii, isi_ib, isi_it, isi_il, isi_bi, isi_bb, isi_tt, isi_ni, isi_si, isi_ti, isi_li, isi_di, isi_ll, scal_ii, scal_bb, sz0, sz1, sz2, sz3, sz4, List.map_cons, List.map_nil, List.length_cons, List.length_nil, List.replicate, List.cons_append, List.nil_append, List.append_nil, List.getElem?_cons_zero, List.getElem?_cons_succ, List.set_cons_zero, List.set_cons_succ, Option.some.injEq, V.int.injEq, V.bl.injEq, V.ref.injEq, V.ty.injEq, List.cons.injEq, and_true, true_and, exists_eq_left, exists_eq_left', exists_and_left, exists_and_right, exists_eq, exists_eq', and_assoc, Nat.reduceAdd, Nat.reduceSub, Bool.not_true, Bool.not_false, Bool.false_eq_true, if_true, if_false, reduceIte, Nat.zero_add, decide_true, decide_false, selC, comp_K, tYes, Option.join_some, rIxTH, rIxLH, rLenH, rIsiF, at0, at1, at2, at3, at4, at5, at6, at7, at8, HO.tup.injEq, HO.lst.injEq, reduceCtorEq, false_or, or_false, tyF_non, tyF_bl, tyF_int, tyF_str, exists_const, Int.reduceAdd, Int.reduceMul, Int.reduceSub, gSub, rSetL, tSl, tPart, tNoPart, rSlH, upd_same, upd_upd, rIntB, rListH, tBM, tBM0, rAppend, rClear, tPar, gTupH]
  refine ite2 (fun c => ⟨Nat.le_trans hx (by decide), ?_⟩) (fun c => ?_)
  · have e : Txt.slice x (some 1) none = noMinus x := by unfold noMinus; rw [if_pos c]
    rw [e]
    exact ⟨_, rfl, by rw [← e]; exact Nat.le_trans (Txt.slice_le _ _ _) hx, fun H1 g1 => ⟨_, rfl, key _ rfl H1 g1⟩⟩
  · have e : x = noMinus x := by unfold noMinus; rw [if_neg c]
    exact ⟨x, rfl, hx, fun H1 g1 => ⟨_, rfl, key _ e H1 g1⟩⟩
theorem ok_read_number (T : Txt K mg ad fd ca) : FnOk P w K mg base (CXr P w) 3 (ad 4) (fd 4) ["text"] (sp_rnum (ca 5)) := by
  refine T.read_number.fn.okX sc_read_number (fun vs H Q E h => ?_) (fun cdv A outer s H vs Q E hr h => ?_)
  · obtain ⟨x, rfl, _⟩ := h
    rfl
  obtain ⟨x, rfl, hx, h⟩ := h
  have qpss7 := @pss7
  have qps_set := @ps_set
  have qpe_bm := @pe_bm
  have qpv := @pv
  have qpa1 := @pa1
  have qpe_str := @pe_str
  have qps_if := @ps_if
  have qpt_cmpR := @pt_cmpR
  have qpe_callB := @pe_callB
  have qpe_int := @pe_int
  have qpss_one := @pss_one
  have qps_raise := @ps_raise
  have qpss_nil := @pss_nil
  have qpe_call := @pe_call
  have qpe_ix := @pe_ix
  have qps_ret := @ps_ret
  have qpe_tup := @pe_tup
  have qpa2 := @pa2
  have qPWpt := @PW.pt
  have qpw_or := @pw_or
  have qpw_or1 := @pw_or1
  generalize @L2.PE = QE, @L2.PT = QT, @L2.PW = QW, @L2.PA = QA, @L2.PS = QS, @L2.PSs = QSs, @L2.PG = QG, @L2.PGs = QGs, @L2.PI = QI, @L2.PO = QO, @L2.PIf = QIf at qpss7 qps_set qpe_bm qpv qpa1 qpe_str qps_if qpt_cmpR qpe_callB qpe_int qpss_one qps_raise qpss_nil qpe_call qpe_ix qps_ret qpe_tup qpa2 qPWpt qpw_or qpw_or1 ⊢
  refine ⟨_,
    (qpss7
      (qps_set (i := 1) sc_read_number.nd rfl (Or.inl rfl) (qpe_bm PySem.F.plainAttrs_str PySem.F.slot_str_split PySem.F.type_str_split mt_split (qpv 0) (qpa1 qpe_str ns_Constant)))
      (qps_if (qpt_cmpR op_gt (qpe_callB call_lenH rfl T.b_len bt_len (qpa1 (qpv 1) ns_Name)) qpe_int (nomark _)) (qpss_one (qps_raise raises_cx hr.hd T.xc_NoText rfl T.x_NoText (qpa1 qpe_str ns_Constant))) qpss_nil)
      (qps_set (i := 2) sc_read_number.nd rfl (Or.inl rfl) (qpe_call (ok_read_whole T) (hr.mono (by decide)) rfl T.read_whole.mg T.read_whole.fn.kp T.read_whole.bn .nil pass_cx (qpa1 (qpe_ix ix_listH (qpv 1) qpe_int (fun _ _ => rfl)) ns_Subscript)))
      (qps_if (qpt_cmpR op_eq (qpe_callB call_lenH rfl T.b_len bt_len (qpa1 (qpv 1) ns_Name)) qpe_int (nomark _)) (qpss_one (qps_ret (qpe_tup (qpa2 (qpv 2) ns_Name qpe_int ns_Constant)))) qpss_nil)
      (qps_set (i := 3) sc_read_number.nd rfl (Or.inl rfl) (qpe_call (ok_read_whole T) (hr.mono (by decide)) rfl T.read_whole.mg T.read_whole.fn.kp T.read_whole.bn .nil pass_cx (qpa1 (qpe_ix ix_listH (qpv 1) qpe_int (fun _ _ => rfl)) ns_Subscript)))
      (qps_if (qPWpt (qpw_or (qpt_cmpR op_lt (qpv 3) qpe_int (nomark _)) (qpw_or1 (qpt_cmpR op_ne (qpe_call (ok_divisor T) (hr.mono (by decide)) rfl T.divisor.mg T.divisor.fn.kp T.divisor.bn .nil pass0 (qpa2 (qpv 2) ns_Name (qpv 3) ns_Name)) qpe_int (nomark _))))) (qpss_one (qps_raise raises_cx hr.hd T.xc_NoText rfl T.x_NoText (qpa1 qpe_str ns_Constant))) qpss_nil)
      (qps_ret (qpe_tup (qpa2 (qpv 2) ns_Name (qpv 3) ns_Name))))
    , ?_⟩
  clear  qpss7 qps_set qpe_bm qpv qpa1 qpe_str qps_if qpt_cmpR qpe_callB qpe_int qpss_one qps_raise qpss_nil qpe_call qpe_ix qps_ret qpe_tup qpa2 qPWpt qpw_or qpw_or1 QE QT QW QA QS QSs QG QGs QI QO QIf
  simp only [tRaise, iStr, rSplit, rStarts, rIntT, rSlS, rMulS, rAll, rIxS, tyV_s, scal_ss, V.str.injEq, tSeq, tNext, tRet, tRetN, tIfS, tAsg, gName, tDrop, tVar, tC, tOp, tUn, rI, rI0, rU, rEq, rNe, tTest, tB, tNot, tAnd, tOr, tAndV, tOrV, tNotV, tIf, tCB, tCall, tNil, tCons, tTup, tLst, gTup, gCons, gNil, L2.start, rIsi, rIxT, rIxL, cx_K, tyN_non, tyN_bl, tyN_int, tyN_str, isi_ii, isi_ib, isi_it, isi_il, isi_bi, isi_bb, isi_tt, isi_ni, isi_si, isi_ti, isi_li, isi_di, isi_ll, scal_ii, scal_bb, sz0, sz1, sz2, sz3, sz4, List.map_cons, List.map_nil, List.length_cons, List.length_nil, List.replicate, List.cons_append, List.nil_append, List.append_nil, List.getElem?_cons_zero, List.getElem?_cons_succ, List.set_cons_zero, List.set_cons_succ, Option.some.injEq, V.int.injEq, V.bl.injEq, V.ref.injEq, V.ty.injEq, List.cons.injEq, and_true, true_and, exists_eq_left, exists_eq_left', exists_and_left, exists_and_right, exists_eq, exists_eq', and_assoc, Nat.reduceAdd, Nat.reduceSub, Bool.not_true, Bool.not_false, Bool.false_eq_true, if_true, if_false, reduceIte, Nat.zero_add, decide_true, decide_false, selC, comp_K, tYes, Option.join_some, rIxTH, rIxLH, rLenH, rIsiF, at0, at1, at2, at3, at4, at5, at6, at7, at8, HO.tup.injEq, HO.lst.injEq, reduceCtorEq, false_or, or_false, tyF_non, tyF_bl, tyF_int, tyF_str, exists_const, Int.reduceAdd, Int.reduceMul, Int.reduceSub, gSub, rSetL, tSl, tPart, tNoPart, rSlH, upd_same, upd_upd, rIntB, rListH, tBM, tBM0, rAppend, rClear, tPar, gTupH]
  have sl := split_len (x := x) (y := Str.ofString "/") (by rw [len_slash]; decide)
  have sm : ∀ p, p ∈ Txt.split x (Str.ofString "/") → p.length ≤ 1000 := fun p hp => Nat.le_trans (split_mem hp) hx
  have sn := split_ne x (Str.ofString "/")
  refine ⟨by rw [len_slash]; rfl, hx, Nat.le_trans (show _ ≤ 1001 by omega) (by decide), fun D hD => ?_⟩
  unfold numV at h
  generalize Txt.split x (Str.ofString "/") = L at *
  have g1 := same_new hD (HO.lst (L.map V.str))
  have d1 : upd H D (HO.lst (L.map V.str)) D = some (HO.lst (L.map V.str)) := upd_same
  generalize upd H D (HO.lst (L.map V.str)) = H1 at *
  match L, sn with
  | [a], _ =>
    simp only at h
    refine ite2 (fun c => absurd (of_decide_eq_true c) (by simp)) (fun _ => ⟨_, at0, a, rfl, sm a (List.mem_cons_self ..), ?_⟩)
    cases e : wholeV a with
    | none =>
      rw [e] at h
      rcases h with ⟨_, hE⟩ | ⟨_, _, z, _⟩
      · exact .inl ⟨rfl, fun H2 g2 => hE H2 (g1.trans g2)⟩
      · cases z
    | some n =>
      rw [e] at h
      rcases h with ⟨z, _⟩ | ⟨t1, u1, z, hq⟩
      · cases z
      · cases z
        refine .inr ⟨_, rfl, fun H2 g2 => ?_⟩
        have d2 := g2 _ _ d1
        refine ⟨_, .inl d2, ite2 (fun _ => fun p hp => hq p _ (g1.trans (g2.trans (same_new hp _))) upd_same) (fun c => absurd (decide_eq_true rfl) c)⟩
  | [a, b], _ =>
    simp only at h
    refine ite2 (fun c => absurd (of_decide_eq_true c) (by simp)) (fun _ => ⟨_, at0, a, rfl, sm a (List.mem_cons_self ..), ?_⟩)
    cases e1 : wholeV a with
    | none =>
      rw [e1] at h
      simp only at h
      rcases h with ⟨_, hE⟩ | ⟨_, _, z, _⟩
      · exact .inl ⟨rfl, fun H2 g2 => hE H2 (g1.trans g2)⟩
      · cases z
    | some t1 =>
      refine .inr ⟨_, rfl, fun H2 g2 => ?_⟩
      have d2 := g2 _ _ d1
      refine ⟨_, .inl d2, ite2 (fun c => absurd (of_decide_eq_true c) (by simp)) (fun _ => ⟨_, d2, _, at1, b, rfl, sm b (by simp), ?_⟩)⟩
      cases e2 : wholeV b with
      | none =>
        rw [e1, e2] at h
        simp only at h
        rcases h with ⟨_, hE⟩ | ⟨_, _, z, _⟩
        · exact .inl ⟨rfl, fun H3 g3' => hE H3 (g1.trans (g2.trans g3'))⟩
        · cases z
      | some u1 =>
        rw [e1, e2] at h
        simp only at h
        refine .inr ⟨_, rfl, fun H3 g3' => ⟨_, rfl, ?_⟩⟩
        have gg := g1.trans (g2.trans g3')
        by_cases c1 : u1 < 2
        · rw [if_pos (.inl c1)] at h
          rcases h with ⟨_, hE⟩ | ⟨_, _, z, _⟩
          · exact ite2 (fun _ => hE H3 gg) (fun c => absurd (decide_eq_true c1) c)
          · cases z
        · refine ite2 (fun c => absurd (of_decide_eq_true c) c1) (fun _ => ⟨_, _, rfl, rfl, ?_⟩)
          by_cases c2 : G t1 u1 = 1
          · rw [if_neg (by rintro (z | z); exact c1 z; exact z c2)] at h
            rw [c2]
            rcases h with ⟨z, _⟩ | ⟨_, _, z, hq⟩
            · cases z
            · cases z
              exact iteNS rfl fun p hp => hq p _ (gg.trans (same_new hp _)) upd_same
          · rw [if_pos (.inr c2)] at h
            rcases h with ⟨_, hE⟩ | ⟨_, _, z, _⟩
            · exact ite2 (fun _ => hE H3 gg) (fun c => absurd (by rw [decide_eq_false (fun z => c2 (V.int.inj z))]; rfl) c)
            · cases z
  | a :: b :: c :: r, _ =>
    simp only at h
    rcases h with ⟨_, hE⟩ | ⟨_, _, z, _⟩
    · exact ite2 (fun _ => hE H1 g1) (fun c => absurd (decide_eq_true (by simp; omega)) c)
    · cases z
theorem num_facts {x : Str} {t u : Int} (h : numV x = some (t, u)) : t.natAbs < 2 ^ 200 ∧ u.natAbs < 2 ^ 200 ∧ 0 < u := by
  unfold numV at h
  split at h
  · rename_i a _
    cases e : wholeV a with
    | none => rw [e] at h; cases h
    | some n =>
      rw [e] at h
      cases h
      exact ⟨whole_lt e, by decide, by decide⟩
  · rename_i a b _
    cases e1 : wholeV a with
    | none => rw [e1] at h; cases h
    | some t1 =>
      cases e2 : wholeV b with
      | none => rw [e1, e2] at h; cases h
      | some u1 =>
        rw [e1, e2] at h
        simp only at h
        split at h
        · cases h
        · rename_i n
          cases h
          exact ⟨whole_lt e1, whole_lt e2, by omega⟩
  · cases h
theorem ok_read_point (T : Txt K mg ad fd ca) : FnOk P w K mg base (CXr P w) 4 (ad 3) (fd 3) ["text"] (sp_rpoint (ca 5)) := by
  refine T.read_point.fn.okX sc_read_point (fun vs H Q E h => ?_) (fun cdv A outer s H vs Q E hr h => ?_)
  · rcases h with ⟨x, Tx, rfl, _⟩ | ⟨x, rfl, _⟩
    · rfl
    · rfl
  have qpss6 := @pss6
  have qps_if := @ps_if
  have qpt_not := @pt_not
  have qpt_val := @pt_val
  have qpe_callB := @pe_callB
  have qpa2 := @pa2
  have qpv := @pv
  have qpe_bltn := @pe_bltn
  have qpss_one := @pss_one
  have qps_raise := @ps_raise
  have qpa1 := @pa1
  have qpe_str := @pe_str
  have qpss_nil := @pss_nil
  have qps_set := @ps_set
  have qpe_bm := @pe_bm
  have qpt_cmpR := @pt_cmpR
  have qpe_int := @pe_int
  have qpe_call := @pe_call
  have qpe_ix := @pe_ix
  have qps_ret := @ps_ret
  have qpa3 := @pa3
  have qpe_op := @pe_op
  generalize @L2.PE = QE, @L2.PT = QT, @L2.PW = QW, @L2.PA = QA, @L2.PS = QS, @L2.PSs = QSs, @L2.PG = QG, @L2.PGs = QGs, @L2.PI = QI, @L2.PO = QO, @L2.PIf = QIf at qpss6 qps_if qpt_not qpt_val qpe_callB qpa2 qpv qpe_bltn qpss_one qps_raise qpa1 qpe_str qpss_nil qps_set qpe_bm qpt_cmpR qpe_int qpe_call qpe_ix qps_ret qpa3 qpe_op ⊢
  refine ⟨_,
    (qpss6
      (qps_if (qpt_not (qpt_val (qpe_callB (isiF call_isi_str) rfl T.b_isinstance bt_isinstance (qpa2 (qpv 0) ns_Name (qpe_bltn (v := .ty "str") rfl T.b_str bt_str rfl) ns_Name)))) (qpss_one (qps_raise raises_cx hr.hd T.xc_NoText rfl T.x_NoText (qpa1 qpe_str ns_Constant))) qpss_nil)
      (qps_set (i := 1) sc_read_point.nd rfl (Or.inl rfl) (qpe_bm PySem.F.plainAttrs_str PySem.F.slot_str_split PySem.F.type_str_split mt_split (qpv 0) (qpa1 qpe_str ns_Constant)))
      (qps_if (qpt_cmpR op_ne (qpe_callB call_lenH rfl T.b_len bt_len (qpa1 (qpv 1) ns_Name)) qpe_int (nomark _)) (qpss_one (qps_raise raises_cx hr.hd T.xc_NoText rfl T.x_NoText (qpa1 qpe_str ns_Constant))) qpss_nil)
      (qps_set (i := 2) sc_read_point.nd rfl (Or.inl rfl) (qpe_call (ok_read_number T) (hr.mono (by decide)) rfl T.read_number.mg T.read_number.fn.kp T.read_number.bn .nil pass_cx (qpa1 (qpe_ix ix_listH (qpv 1) qpe_int (fun _ _ => rfl)) ns_Subscript)))
      (qps_set (i := 3) sc_read_point.nd rfl (Or.inl rfl) (qpe_call (ok_read_number T) (hr.mono (by decide)) rfl T.read_number.mg T.read_number.fn.kp T.read_number.bn .nil pass_cx (qpa1 (qpe_ix ix_listH (qpv 1) qpe_int (fun _ _ => rfl)) ns_Subscript)))
      (qps_ret (qpe_call (ok_point T) (hr.mono (by decide)) rfl T.point.mg T.point.fn.kp T.point.bn .nil pass0 (qpa3 (qpe_op op_mulB (qpe_ix ix_tupH (qpv 2) qpe_int (fun _ _ => rfl)) (qpe_ix ix_tupH (qpv 3) qpe_int (fun _ _ => rfl))) ns_BinOp (qpe_op op_mulB (qpe_ix ix_tupH (qpv 3) qpe_int (fun _ _ => rfl)) (qpe_ix ix_tupH (qpv 2) qpe_int (fun _ _ => rfl))) ns_BinOp (qpe_op op_mulB (qpe_ix ix_tupH (qpv 2) qpe_int (fun _ _ => rfl)) (qpe_ix ix_tupH (qpv 3) qpe_int (fun _ _ => rfl))) ns_BinOp))))
    , ?_⟩
  clear  qpss6 qps_if qpt_not qpt_val qpe_callB qpa2 qpv qpe_bltn qpss_one qps_raise qpa1 qpe_str qpss_nil qps_set qpe_bm qpt_cmpR qpe_int qpe_call qpe_ix qps_ret qpa3 qpe_op QE QT QW QA QS QSs QG QGs QI QO QIf
  rcases h with ⟨x, Tx, rfl, ht, hb, hE⟩ | ⟨x, rfl, hx, h⟩
  · simp only [tRaise, iStr, rSplit, rStarts, rIntT, rSlS, rMulS, rAll, rIxS, tyV_s, scal_ss, V.str.injEq, tSeq, tNext, tRet, tRetN, tIfS, tAsg, gName, tDrop, tVar, tC, tOp, tUn, rI, rI0, rU, rEq, rNe, tTest, tB, tNot, tAnd, tOr, tAndV, tOrV, tNotV, tIf, tCB, tCall, tNil, tCons, tTup, tLst, gTup, gCons, gNil, L2.start, rIsi, rIxT, rIxL, cx_K, tyN_non, tyN_bl, tyN_int, tyN_str, isi_ii, isi_ib, isi_it, isi_il, isi_bi, isi_bb, isi_tt, isi_ni, isi_si, isi_ti, isi_li, isi_di, isi_ll, scal_ii, scal_bb, sz0, sz1, sz2, sz3, sz4, List.map_cons, List.map_nil, List.length_cons, List.length_nil, List.replicate, List.cons_append, List.nil_append, List.append_nil, List.getElem?_cons_zero, List.getElem?_cons_succ, List.set_cons_zero, List.set_cons_succ, Option.some.injEq, V.int.injEq, V.bl.injEq, V.ref.injEq, V.ty.injEq, List.cons.injEq, and_true, true_and, exists_eq_left, exists_eq_left', exists_and_left, exists_and_right, exists_eq, exists_eq', and_assoc, Nat.reduceAdd, Nat.reduceSub, Bool.not_true, Bool.not_false, Bool.false_eq_true, if_true, if_false, reduceIte, Nat.zero_add, decide_true, decide_false, selC, comp_K, tYes, Option.join_some, rIxTH, rIxLH, rLenH, rIsiF, at0, at1, at2, at3, at4, at5, at6, at7, at8, HO.tup.injEq, HO.lst.injEq, reduceCtorEq, false_or, or_false, tyF_non, tyF_bl, tyF_int, tyF_str, exists_const, Int.reduceAdd, Int.reduceMul, Int.reduceSub, gSub, rSetL, tSl, tPart, tNoPart, rSlH, upd_same, upd_upd, rIntB, rListH, tBM, tBM0, rAppend, rClear, tPar, gTupH]
    refine ⟨Tx, ht, ?_⟩
    rw [hb]
    exact iteT hE
  simp only [tRaise, isi_ss, iStr, rSplit, rStarts, rIntT, rSlS, rMulS, rAll, rIxS, tyV_s, scal_ss, V.str.injEq, tSeq, tNext, tRet, tRetN, tIfS, tAsg, gName, tDrop, tVar, tC, tOp, tUn, rI, rI0, rU, rEq, rNe, tTest, tB, tNot, tAnd, tOr, tAndV, tOrV, tNotV, tIf, tCB, tCall, tNil, tCons, tTup, tLst, gTup, gCons, gNil, L2.start, rIsi, rIxT, rIxL, cx_K, tyN_non, tyN_bl, tyN_int, tyN_str, isi_ii, isi_ib, isi_it, isi_il, isi_bi, isi_bb, isi_tt, isi_ni, isi_si, isi_ti, isi_li, isi_di, isi_ll, scal_ii, scal_bb, sz0, sz1, sz2, sz3, sz4, List.map_cons, List.map_nil, List.length_cons, List.length_nil, List.replicate, List.cons_append, List.nil_append, List.append_nil, List.getElem?_cons_zero, List.getElem?_cons_succ, List.set_cons_zero, List.set_cons_succ, Option.some.injEq, V.int.injEq, V.bl.injEq, V.ref.injEq, V.ty.injEq, List.cons.injEq, and_true, true_and, exists_eq_left, exists_eq_left', exists_and_left, exists_and_right, exists_eq, exists_eq', and_assoc, Nat.reduceAdd, Nat.reduceSub, Bool.not_true, Bool.not_false, Bool.false_eq_true, if_true, if_false, reduceIte, Nat.zero_add, decide_true, decide_false, selC, comp_K, tYes, Option.join_some, rIxTH, rIxLH, rLenH, rIsiF, at0, at1, at2, at3, at4, at5, at6, at7, at8, HO.tup.injEq, HO.lst.injEq, reduceCtorEq, false_or, or_false, tyF_non, tyF_bl, tyF_int, tyF_str, exists_const, Int.reduceAdd, Int.reduceMul, Int.reduceSub, gSub, rSetL, tSl, tPart, tNoPart, rSlH, upd_same, upd_upd, rIntB, rListH, tBM, tBM0, rAppend, rClear, tPar, gTupH]
  have sl := split_len (x := x) (y := Str.ofString ",") (by rw [len_comma]; decide)
  have sm : ∀ p, p ∈ Txt.split x (Str.ofString ",") → p.length ≤ 1000 := fun p hp => Nat.le_trans (split_mem hp) hx
  have sn := split_ne x (Str.ofString ",")
  refine ⟨by rw [len_comma]; rfl, hx, Nat.le_trans (show _ ≤ 1001 by omega) (by decide), fun D hD => ?_⟩
  unfold ptV at h
  generalize Txt.split x (Str.ofString ",") = L at *
  have g1 := same_new hD (HO.lst (L.map V.str))
  have d1 : upd H D (HO.lst (L.map V.str)) D = some (HO.lst (L.map V.str)) := upd_same
  generalize upd H D (HO.lst (L.map V.str)) = H1 at *
  by_cases two : L.length = 2
  · match L, two with
    | [a, b], _ =>
      simp only at h
      refine iteNS rfl ⟨_, at0, a, rfl, sm a (List.mem_cons_self ..), ?_⟩
      cases e1 : numV a with
      | none =>
        rw [e1] at h
        simp only at h
        rcases h with ⟨_, hE⟩ | ⟨_, z, _⟩
        · exact .inl ⟨rfl, fun H2 g2 => hE H2 (g1.trans g2)⟩
        · cases z
      | some pq =>
        obtain ⟨t1, u1⟩ := pq
        refine .inr ⟨_, _, rfl, fun px H2 g2 hpx => ?_⟩
        have d2 := g2 _ _ d1
        refine ⟨_, d2, _, at1, b, rfl, sm b (by simp), ?_⟩
        cases e2 : numV b with
        | none =>
          rw [e1, e2] at h
          simp only at h
          rcases h with ⟨_, hE⟩ | ⟨_, z, _⟩
          · exact .inl ⟨rfl, fun H3 g3' => hE H3 (g1.trans (g2.trans g3'))⟩
          · cases z
        | some rs =>
          obtain ⟨t2, u2⟩ := rs
          rw [e1, e2] at h
          simp only at h
          refine .inr ⟨_, _, rfl, fun py H3 g3' hpy => ?_⟩
          obtain ⟨l1, l2, l3⟩ := num_facts e1
          obtain ⟨m1, m2, m3⟩ := num_facts e2
          have hpx3 := g3' _ _ hpx
          rcases h with ⟨z, _⟩ | ⟨_, z, hq⟩
          · cases z
          · cases z
            simp only [iStr, rSplit, rStarts, rIntT, rSlS, rMulS, rAll, rIxS, tyV_s, scal_ss, V.str.injEq, tSeq, tNext, tRet, tRetN, tIfS, tAsg, gName, tDrop, tVar, tC, tOp, tUn, rI, rI0, rU, rEq, rNe, tTest, tB, tNot, tAnd, tOr, tAndV, tOrV, tNotV, tIf, tCB, tCall, tNil, tCons, tTup, tLst, gTup, gCons, gNil, L2.start, rIsi, rIxT, rIxL, cx_K, tyN_non, tyN_bl, tyN_int, tyN_str, isi_ii, isi_ib, isi_it, isi_il, isi_bi, isi_bb, isi_tt, isi_ni, isi_si, isi_ti, isi_li, isi_di, isi_ll, scal_ii, scal_bb, sz0, sz1, sz2, sz3, sz4, List.map_cons, List.map_nil, List.length_cons, List.length_nil, List.replicate, List.cons_append, List.nil_append, List.append_nil, List.getElem?_cons_zero, List.getElem?_cons_succ, List.set_cons_zero, List.set_cons_succ, Option.some.injEq, V.int.injEq, V.bl.injEq, V.ref.injEq, V.ty.injEq, List.cons.injEq, and_true, true_and, exists_eq_left, exists_eq_left', exists_and_left, exists_and_right, exists_eq, exists_eq', and_assoc, Nat.reduceAdd, Nat.reduceSub, Bool.not_true, Bool.not_false, Bool.false_eq_true, if_true, if_false, reduceIte, Nat.zero_add, decide_true, decide_false, selC, comp_K, tYes, Option.join_some, rIxTH, rIxLH, rLenH, rIsiF, at0, at1, at2, at3, at4, at5, at6, at7, at8, HO.tup.injEq, HO.lst.injEq, reduceCtorEq, false_or, or_false, tyF_non, tyF_bl, tyF_int, tyF_str, exists_const, Int.reduceAdd, Int.reduceMul, Int.reduceSub, gSub, rSetL, tSl, tPart, tNoPart, rSlH, upd_same, upd_upd, rIntB, rListH, tBM, tBM0, rAppend, rClear, tPar, gTupH, hpx3, hpy]
            have nz := Int.mul_pos l3 m3
            exact ⟨cbig l1 m2, cbig m1 l2, cbig l2 m2, _, _, _, rfl, by omega, lt_mono (mul_lt l2 m2) (by decide), fun p H4 g4 hp => hq p H4 (g1.trans (g2.trans (g3'.trans g4))) hp⟩
  · have hE : E (.ref (ca 5)) none H1 := by
      match L, two with
      | [], _ => rcases h with ⟨_, hE⟩ | ⟨_, z, _⟩; exact hE H1 g1; cases z
      | [a], _ => rcases h with ⟨_, hE⟩ | ⟨_, z, _⟩; exact hE H1 g1; cases z
      | a :: b :: c :: r, _ => rcases h with ⟨_, hE⟩ | ⟨_, z, _⟩; exact hE H1 g1; cases z
    refine ite2 (fun _ => hE) (fun c => absurd ?_ c)
    rw [List.length_map, decide_eq_false (by omega)]
    rfl
theorem ok_show_fraction (T : Txt K mg ad fd ca) : FnOk P w K mg base CX0 1 (ad 7) (fd 7) ["one"] sp_show := by
  refine T.show_fraction.fn.ok sc_show_fraction (fun vs H Q E h => ?_) (fun cdv A outer s H vs Q E hr h => ?_)
  · obtain ⟨p, t, u, rfl, _⟩ := h
    rfl
  obtain ⟨p, t, u, rfl, hp, lt, lu, k⟩ := h
  have qpss2 := @pss2
  have qps_if := @ps_if
  have qpt_cmpR := @pt_cmpR
  have qpe_ix := @pe_ix
  have qpv := @pv
  have qpe_int := @pe_int
  have qpss_one := @pss_one
  have qps_ret := @ps_ret
  have qpe_callTy := @pe_callTy
  have qpa1 := @pa1
  have qpss_nil := @pss_nil
  have qpe_op := @pe_op
  have qpe_str := @pe_str
  generalize @L2.PE = QE, @L2.PT = QT, @L2.PW = QW, @L2.PA = QA, @L2.PS = QS, @L2.PSs = QSs, @L2.PG = QG, @L2.PGs = QGs, @L2.PI = QI, @L2.PO = QO, @L2.PIf = QIf at qpss2 qps_if qpt_cmpR qpe_ix qpv qpe_int qpss_one qps_ret qpe_callTy qpa1 qpss_nil qpe_op qpe_str ⊢
  refine ⟨_,
    (qpss2
      (qps_if (qpt_cmpR op_eq (qpe_ix ix_tupH (qpv 0) qpe_int (fun _ _ => rfl)) qpe_int (nomark _)) (qpss_one (qps_ret (qpe_callTy call_str_int rfl T.b_str bt_str (qpa1 (qpe_ix ix_tupH (qpv 0) qpe_int (fun _ _ => rfl)) ns_Subscript)))) qpss_nil)
      (qps_ret (qpe_op op_add_str (qpe_op op_add_str (qpe_callTy call_str_int rfl T.b_str bt_str (qpa1 (qpe_ix ix_tupH (qpv 0) qpe_int (fun _ _ => rfl)) ns_Subscript)) qpe_str) (qpe_callTy call_str_int rfl T.b_str bt_str (qpa1 (qpe_ix ix_tupH (qpv 0) qpe_int (fun _ _ => rfl)) ns_Subscript)))))
    , ?_⟩
  clear  qpss2 qps_if qpt_cmpR qpe_ix qpv qpe_int qpss_one qps_ret qpe_callTy qpa1 qpss_nil qpe_op qpe_str QE QT QW QA QS QSs QG QGs QI QO QIf
  simp only [iStr, rSplit, rStarts, rIntT, rSlS, rMulS, rAll, rIxS, tyV_s, scal_ss, V.str.injEq, tSeq, tNext, tRet, tRetN, tIfS, tAsg, gName, tDrop, tVar, tC, tOp, tUn, rI, rI0, rU, rEq, rNe, tTest, tB, tNot, tAnd, tOr, tAndV, tOrV, tNotV, tIf, tCB, tCall, tNil, tCons, tTup, tLst, gTup, gCons, gNil, L2.start, rIsi, rIxT, rIxL, cx_K, tyN_non, tyN_bl, tyN_int, tyN_str, isi_ii, isi_ib, isi_it, isi_il, isi_bi, isi_bb, isi_tt, isi_ni, isi_si, isi_ti, isi_li, isi_di, isi_ll, scal_ii, scal_bb, sz0, sz1, sz2, sz3, sz4, List.map_cons, List.map_nil, List.length_cons, List.length_nil, List.replicate, List.cons_append, List.nil_append, List.append_nil, List.getElem?_cons_zero, List.getElem?_cons_succ, List.set_cons_zero, List.set_cons_succ, Option.some.injEq, V.int.injEq, V.bl.injEq, V.ref.injEq, V.ty.injEq, List.cons.injEq, and_true, true_and, exists_eq_left, exists_eq_left', exists_and_left, exists_and_right, exists_eq, exists_eq', and_assoc, Nat.reduceAdd, Nat.reduceSub, Bool.not_true, Bool.not_false, Bool.false_eq_true, if_true, if_false, reduceIte, Nat.zero_add, decide_true, decide_false, selC, comp_K, tYes, Option.join_some, rIxTH, rIxLH, rLenH, rIsiF, at0, at1, at2, at3, at4, at5, at6, at7, at8, HO.tup.injEq, HO.lst.injEq, reduceCtorEq, false_or, or_false, tyF_non, tyF_bl, tyF_int, tyF_str, exists_const, Int.reduceAdd, Int.reduceMul, Int.reduceSub, gSub, rSetL, tSl, tPart, tNoPart, rSlH, upd_same, upd_upd, rIntB, rListH, tBM, tBM0, rAppend, rClear, tPar, gTupH, hp]
  have l1 := len_int (lt5 lt)
  have l2 := len_int (lt5 lu)
  unfold showV at k
  refine ite2 (fun c => ⟨log_of (lt5 lt), ?_⟩) (fun c => ⟨log_of (lt5 lt), sz_of (by rw [len_sl]; omega), log_of (lt5 lu), sz_of (by rw [Str.length_append, len_sl]; omega), ?_⟩)
  · rw [if_pos (of_decide_eq_true c)] at k
    exact k
  · rw [if_neg (fun z => c (decide_eq_true z))] at k
    exact k
theorem ok_law_cell_at (T : Txt K mg ad fd ca) : FnOk P w K mg base CX0 1 (ad 8) (fd 8) ["_law_script", "_law_k"] (sp_cell K) := by
  refine T.law_cell_at.fn.ok sc_law_cell_at (fun vs H Q E h => ?_) (fun cdv A outer s H vs Q E hr h => ?_)
  · obtain ⟨l, ns, k, rfl, _⟩ := h
    rfl
  obtain ⟨l, ns, k, rfl, hl, h0, q⟩ := h
  have qpss2 := @pss2
  have qps_if := @ps_if
  have qpt_cmpR := @pt_cmpR
  have qpv := @pv
  have qpe_callB := @pe_callB
  have qpa1 := @pa1
  have qpss_one := @pss_one
  have qps_ret := @ps_ret
  have qpe_ix := @pe_ix
  have qpss_nil := @pss_nil
  have qpe_int := @pe_int
  generalize @L2.PE = QE, @L2.PT = QT, @L2.PW = QW, @L2.PA = QA, @L2.PS = QS, @L2.PSs = QSs, @L2.PG = QG, @L2.PGs = QGs, @L2.PI = QI, @L2.PO = QO, @L2.PIf = QIf at qpss2 qps_if qpt_cmpR qpv qpe_callB qpa1 qpss_one qps_ret qpe_ix qpss_nil qpe_int ⊢
  refine ⟨_,
    (qpss2
      (qps_if (qpt_cmpR op_lt (qpv 1) (qpe_callB call_len_seq rfl T.b_len bt_len (qpa1 (qpv 0) ns_Name)) (nomark _)) (qpss_one (qps_ret (qpe_ix ix_list (qpv 0) (qpv 1) (fun _ _ => rfl)))) qpss_nil)
      (qps_ret qpe_int))
    , ?_⟩
  clear  qpss2 qps_if qpt_cmpR qpv qpe_callB qpa1 qpss_one qps_ret qpe_ix qpss_nil qpe_int QE QT QW QA QS QSs QG QGs QI QO QIf
  simp only [tSeq, tNext, tRet, tRetN, tIfS, tAsg, gName, tDrop, tVar, tC, tOp, tUn, rI, rI0, rU, rEq, rNe, tTest, tB, tNot, tAnd, tOr, tAndV, tOrV, tNotV, tIf, tCB, tCall, tNil, tCons, tTup, tLst, gTup, gCons, gNil, L2.start, rIsi, rIxT, rIxL, cx_K, tyN_non, tyN_bl, tyN_int, tyN_str, isi_ii, isi_ib, isi_it, isi_il, isi_bi, isi_bb, isi_tt, isi_ni, isi_si, isi_ti, isi_li, isi_di, isi_ll, scal_ii, scal_bb, sz0, sz1, sz2, sz3, sz4, List.map_cons, List.map_nil, List.length_cons, List.length_nil, List.replicate, List.cons_append, List.nil_append, List.append_nil, List.getElem?_cons_zero, List.getElem?_cons_succ, List.set_cons_zero, List.set_cons_succ, Option.some.injEq, V.int.injEq, V.bl.injEq, V.ref.injEq, V.ty.injEq, List.cons.injEq, and_true, true_and, exists_eq_left, exists_eq_left', exists_and_left, exists_and_right, exists_eq, exists_eq', and_assoc, Nat.reduceAdd, Nat.reduceSub, Bool.not_true, Bool.not_false, Bool.false_eq_true, if_true, if_false, reduceIte, Nat.zero_add, decide_true, decide_false]
  refine ⟨_, .inl hl, ?_⟩
  rw [List.length_map]
  refine ite2 (fun c => ?_) (fun c => ?_)
  · have c' : k < (ns.length : Int) := of_decide_eq_true c
    have hk : k.toNat < ns.length := by omega
    refine ⟨_, hl, _, ?_, q⟩
    have ek : k = ((k.toNat : Nat) : Int) := by omega
    have z : atI (ns.map V.int) ((k.toNat : Nat) : Int) = some (.int (ns.getD k.toNat 0)) := atI_nat (by
      rw [List.getElem?_map, List.getElem?_eq_getElem hk, List.getD_eq_getElem?_getD, List.getElem?_eq_getElem hk] <;> rfl)
    rw [← ek] at z
    exact z
  · have c' : ¬ k < (ns.length : Int) := fun z => c (decide_eq_true z)
    have e : ns.getD k.toNat 0 = 0 := by rw [List.getD_eq_getElem?_getD, List.getElem?_eq_none (by omega)]; rfl
    rw [e] at q
    exact q
theorem ok_law_whole (T : Txt K mg ad fd ca) : FnOk P w K mg base CX0 1 (ad 9) (fd 9) ["_law_found"] sp_whole := by
  refine T.law_whole.fn.ok sc_law_whole (fun vs H Q E h => ?_) (fun cdv A outer s H vs Q E hr h => ?_)
  · obtain ⟨i, rfl, _⟩ := h
    rfl
  obtain ⟨i, rfl, q⟩ := h
  have qpss_one := @pss_one
  have qps_ret := @ps_ret
  have qpe_and := @pe_and
  have qpe_callB := @pe_callB
  have qpa2 := @pa2
  have qpv := @pv
  have qpe_bltn := @pe_bltn
  have qpe_one := @pe_one
  have qpe_not := @pe_not
  generalize @L2.PE = QE, @L2.PT = QT, @L2.PW = QW, @L2.PA = QA, @L2.PS = QS, @L2.PSs = QSs, @L2.PG = QG, @L2.PGs = QGs, @L2.PI = QI, @L2.PO = QO, @L2.PIf = QIf at qpss_one qps_ret qpe_and qpe_callB qpa2 qpv qpe_bltn qpe_one qpe_not ⊢
  refine ⟨_,
    (qpss_one (qps_ret (qpe_and (qpe_callB (isiF call_isi_int) rfl T.b_isinstance bt_isinstance (qpa2 (qpv 0) ns_Name (qpe_bltn (v := .ty "int") rfl T.b_int bt_int rfl) ns_Name)) (qpe_one (qpe_not (qpe_callB (isiF call_isi_bool) rfl T.b_isinstance bt_isinstance (qpa2 (qpv 0) ns_Name (qpe_bltn (v := .ty "bool") rfl T.b_bool bt_bool rfl) ns_Name)))))))
    , ?_⟩
  clear  qpss_one qps_ret qpe_and qpe_callB qpa2 qpv qpe_bltn qpe_one qpe_not QE QT QW QA QS QSs QG QGs QI QO QIf
  simp only [tSeq, tNext, tRet, tRetN, tIfS, tAsg, gName, tDrop, tVar, tC, tOp, tUn, rI, rI0, rU, rEq, rNe, tTest, tB, tNot, tAnd, tOr, tAndV, tOrV, tNotV, tIf, tCB, tCall, tNil, tCons, tTup, tLst, gTup, gCons, gNil, L2.start, rIsi, rIxT, rIxL, cx_K, tyN_non, tyN_bl, tyN_int, tyN_str, isi_ii, isi_ib, isi_it, isi_il, isi_bi, isi_bb, isi_tt, isi_ni, isi_si, isi_ti, isi_li, isi_di, isi_ll, scal_ii, scal_bb, sz0, sz1, sz2, sz3, sz4, List.map_cons, List.map_nil, List.length_cons, List.length_nil, List.replicate, List.cons_append, List.nil_append, List.append_nil, List.getElem?_cons_zero, List.getElem?_cons_succ, List.set_cons_zero, List.set_cons_succ, Option.some.injEq, V.int.injEq, V.bl.injEq, V.ref.injEq, V.ty.injEq, List.cons.injEq, and_true, true_and, exists_eq_left, exists_eq_left', exists_and_left, exists_and_right, exists_eq, exists_eq', and_assoc, Nat.reduceAdd, Nat.reduceSub, Bool.not_true, Bool.not_false, Bool.false_eq_true, if_true, if_false, reduceIte, Nat.zero_add, decide_true, decide_false, selC, comp_K, tYes, Option.join_some, rIxTH, rIxLH, rLenH, rIsiF, at0, at1, at2, at3, at4, at5, at6, at7, at8, HO.tup.injEq, HO.lst.injEq, reduceCtorEq, false_or, or_false, tyF_non, tyF_bl, tyF_int, tyF_str, exists_const, Int.reduceAdd, Int.reduceMul, Int.reduceSub, gSub, rSetL, tSl, tPart, tNoPart, rSlH, upd_same, upd_upd, rIntB, rListH, tBM, tBM0, rAppend, rClear, tPar, gTupH]
  exact q
theorem okr_law_alike (T : Txt K mg ad fd ca) : ∀ n, FnOk P w K mg base CX0 (n + 1) (ad 10) (fd 10) ["_law_found", "_law_due"] (sp_alike n) := by
  intro n
  induction n with
  | zero => exact ⟨fun vs H Q E h => (sp_alike_zero h).elim, fun A outer s H args us vs Q E hr e0 bt rv h => (sp_alike_zero h).elim⟩
  | succ n ih =>
  refine T.law_alike.fn.ok sc_law_alike (fun vs H Q E h => ?_) (fun cdv A outer s H vs Q E hr h => ?_)
  · obtain ⟨x, y, rfl, _⟩ := h
    rfl
  obtain ⟨x, y, rfl, hal, q⟩ := h
  obtain ⟨tl, htl, hk⟩ : ∃ tl, PSs (cxOf CX0 P w K mg base ["_law_found", "_law_due", "_law_k"] "_law_alike" (defScope s_law_alike) (ad 10) cdv A outer s H E).nox ((defBody s_law_alike).drop 3) tl ∧ ∀ (p q : Addr) (xs ys : List V) (o : Option V), (H p = some (.lst xs) ∨ H p = some (.tup xs)) → (H q = some (.lst ys) ∨ H q = some (.tup ys)) → xs.length = ys.length → ys.length ≤ 1000 → (∀ (j : Nat) (u v : V), xs[j]? = some u → ys[j]? = some v → Al n H u v) →
      tl { nx := fun _ H' => Q .non H', rt := Q } [some (.ref p), some (.ref q), o] H := by
    have qpss3 := @pss3
    have qps_if := @ps_if
    have qpt_cmpR := @pt_cmpR
    have qpe_callB := @pe_callB
    have qpa1 := @pa1
    have qpv := @pv
    have qpss_one := @pss_one
    have qps_ret := @ps_ret
    have qpe_bl := @pe_bl
    have qpss_nil := @pss_nil
    have qps_for := @ps_for
    have qpi_range1 := @pi_range1
    have qpg_name := @pg_name
    have qpt_not := @pt_not
    have qpt_val := @pt_val
    have qpe_call := @pe_call
    have qpa2 := @pa2
    have qpe_ix := @pe_ix
    generalize @L2.PE = QE, @L2.PT = QT, @L2.PW = QW, @L2.PA = QA, @L2.PS = QS, @L2.PSs = QSs, @L2.PG = QG, @L2.PGs = QGs, @L2.PI = QI, @L2.PO = QO, @L2.PIf = QIf at qpss3 qps_if qpt_cmpR qpe_callB qpa1 qpv qpss_one qps_ret qpe_bl qpss_nil qps_for qpi_range1 qpg_name qpt_not qpt_val qpe_call qpa2 qpe_ix ⊢
    refine ⟨_,
    (qpss3
      (qps_if (qpt_cmpR op_ne (qpe_callB call_lenH rfl T.b_len bt_len (qpa1 (qpv 0) ns_Name)) (qpe_callB call_lenH rfl T.b_len bt_len (qpa1 (qpv 1) ns_Name)) (nomark _)) (qpss_one (qps_ret qpe_bl)) qpss_nil)
      (qps_for PassesOwn.never rfl (qpi_range1 rfl T.b_range (qpa1 (qpe_callB call_lenH rfl T.b_len bt_len (qpa1 (qpv 1) ns_Name)) ns_Call)) (qpg_name (i := 2) sc_law_alike.nd rfl (Or.inl rfl)) (qpss_one (qps_if (qpt_not (qpt_val (qpe_call ih (hr.mono (by omega)) rfl T.law_alike.mg T.law_alike.fn.kp T.law_alike.bn .nil pass0 (qpa2 (qpe_ix ix_any (qpv 0) (qpv 2) (fun _ _ => rfl)) ns_Subscript (qpe_ix ix_any (qpv 1) (qpv 2) (fun _ _ => rfl)) ns_Subscript)))) (qpss_one (qps_ret qpe_bl)) qpss_nil)))
      (qps_ret qpe_bl))
      , fun p q' xs ys o hp hq hlen hz hit => ?_⟩
    clear  qpss3 qps_if qpt_cmpR qpe_callB qpa1 qpv qpss_one qps_ret qpe_bl qpss_nil qps_for qpi_range1 qpg_name qpt_not qpt_val qpe_call qpa2 qpe_ix QE QT QW QA QS QSs QG QGs QI QO QIf
    simp only [tSeq, tNext, tRet, tRetN, tIfS, tAsg, gName, tDrop, tVar, tC, tOp, tUn, rI, rI0, rU, rEq, rNe, tTest, tB, tNot, tAnd, tOr, tAndV, tOrV, tNotV, tIf, tCB, tCall, tNil, tCons, tTup, tLst, gTup, gCons, gNil, L2.start, rIsi, rIxT, rIxL, cx_K, tyN_non, tyN_bl, tyN_int, tyN_str, isi_ii, isi_ib, isi_it, isi_il, isi_bi, isi_bb, isi_tt, isi_ni, isi_si, isi_ti, isi_li, isi_di, isi_ll, scal_ii, scal_bb, sz0, sz1, sz2, sz3, sz4, List.map_cons, List.map_nil, List.length_cons, List.length_nil, List.replicate, List.cons_append, List.nil_append, List.append_nil, List.getElem?_cons_zero, List.getElem?_cons_succ, List.set_cons_zero, List.set_cons_succ, Option.some.injEq, V.int.injEq, V.bl.injEq, V.ref.injEq, V.ty.injEq, List.cons.injEq, and_true, true_and, exists_eq_left, exists_eq_left', exists_and_left, exists_and_right, exists_eq, exists_eq', and_assoc, Nat.reduceAdd, Nat.reduceSub, Bool.not_true, Bool.not_false, Bool.false_eq_true, if_true, if_false, reduceIte, Nat.zero_add, decide_true, decide_false, selC, comp_K, tYes, Option.join_some, rIxTH, rIxLH, rLenH, rIsiF, at0, at1, at2, at3, at4, at5, at6, at7, at8, HO.tup.injEq, HO.lst.injEq, reduceCtorEq, false_or, or_false, tyF_non, tyF_bl, tyF_int, tyF_str, exists_const, Int.reduceAdd, Int.reduceMul, Int.reduceSub, gSub, rSetL, tSl, tPart, tNoPart, rSlH, upd_same, upd_upd, rIntB, rListH, tBM, tBM0, rAppend, rClear, tPar, gTupH]
    refine ⟨xs, hp, ys, hq, ite2 (fun c => absurd c (by rw [hlen]; simp)) (fun _ => ?_)⟩
    refine tFor_mk ?_
    simp only [iRng1, tSeq, tNext, tRet, tRetN, tIfS, tAsg, gName, tDrop, tVar, tC, tOp, tUn, rI, rI0, rU, rEq, rNe, tTest, tB, tNot, tAnd, tOr, tAndV, tOrV, tNotV, tIf, tCB, tCall, tNil, tCons, tTup, tLst, gTup, gCons, gNil, L2.start, rIsi, rIxT, rIxL, cx_K, tyN_non, tyN_bl, tyN_int, tyN_str, isi_ii, isi_ib, isi_it, isi_il, isi_bi, isi_bb, isi_tt, isi_ni, isi_si, isi_ti, isi_li, isi_di, isi_ll, scal_ii, scal_bb, sz0, sz1, sz2, sz3, sz4, List.map_cons, List.map_nil, List.length_cons, List.length_nil, List.replicate, List.cons_append, List.nil_append, List.append_nil, List.getElem?_cons_zero, List.getElem?_cons_succ, List.set_cons_zero, List.set_cons_succ, Option.some.injEq, V.int.injEq, V.bl.injEq, V.ref.injEq, V.ty.injEq, List.cons.injEq, and_true, true_and, exists_eq_left, exists_eq_left', exists_and_left, exists_and_right, exists_eq, exists_eq', and_assoc, Nat.reduceAdd, Nat.reduceSub, Bool.not_true, Bool.not_false, Bool.false_eq_true, if_true, if_false, reduceIte, Nat.zero_add, decide_true, decide_false, selC, comp_K, tYes, Option.join_some, rIxTH, rIxLH, rLenH, rIsiF, at0, at1, at2, at3, at4, at5, at6, at7, at8, HO.tup.injEq, HO.lst.injEq, reduceCtorEq, false_or, or_false, tyF_non, tyF_bl, tyF_int, tyF_str, exists_const, Int.reduceAdd, Int.reduceMul, Int.reduceSub, gSub, rSetL, tSl, tPart, tNoPart, rSlH, upd_same, upd_upd, rIntB, rListH, tBM, tBM0, rAppend, rClear, tPar, gTupH]
    refine ⟨ys, hq, by omega, by omega, for_range (n := ((ys.length : Int)).toNat) (fun _ σ H' => H' = H ∧ ∃ o, σ = [some (.ref p), some (.ref q'), o]) ⟨rfl, o, rfl⟩ ?_ ?_⟩
    · rintro j σ H' hj ⟨rfl, o, rfl⟩
      have hj' : j < ys.length := by omega
      have hjx : j < xs.length := by omega
      have ex : xs[j]? = some xs[j] := List.getElem?_eq_getElem hjx
      have ey : ys[j]? = some ys[j] := List.getElem?_eq_getElem hj'
      simp only [tSeq, tNext, tRet, tRetN, tIfS, tAsg, gName, tDrop, tVar, tC, tOp, tUn, rI, rI0, rU, rEq, rNe, tTest, tB, tNot, tAnd, tOr, tAndV, tOrV, tNotV, tIf, tCB, tCall, tNil, tCons, tTup, tLst, gTup, gCons, gNil, L2.start, rIsi, rIxT, rIxL, cx_K, tyN_non, tyN_bl, tyN_int, tyN_str, isi_ii, isi_ib, isi_it, isi_il, isi_bi, isi_bb, isi_tt, isi_ni, isi_si, isi_ti, isi_li, isi_di, isi_ll, scal_ii, scal_bb, sz0, sz1, sz2, sz3, sz4, List.map_cons, List.map_nil, List.length_cons, List.length_nil, List.replicate, List.cons_append, List.nil_append, List.append_nil, List.getElem?_cons_zero, List.getElem?_cons_succ, List.set_cons_zero, List.set_cons_succ, Option.some.injEq, V.int.injEq, V.bl.injEq, V.ref.injEq, V.ty.injEq, List.cons.injEq, and_true, true_and, exists_eq_left, exists_eq_left', exists_and_left, exists_and_right, exists_eq, exists_eq', and_assoc, Nat.reduceAdd, Nat.reduceSub, Bool.not_true, Bool.not_false, Bool.false_eq_true, if_true, if_false, reduceIte, Nat.zero_add, decide_true, decide_false, selC, comp_K, tYes, Option.join_some, rIxTH, rIxLH, rLenH, rIsiF, at0, at1, at2, at3, at4, at5, at6, at7, at8, HO.tup.injEq, HO.lst.injEq, reduceCtorEq, false_or, or_false, tyF_non, tyF_bl, tyF_int, tyF_str, exists_const, Int.reduceAdd, Int.reduceMul, Int.reduceSub, gSub, rSetL, tSl, tPart, tNoPart, rSlH, upd_same, upd_upd, rIntB, rListH, tBM, tBM0, rAppend, rClear, tPar, gTupH, Int.zero_add]
      exact ⟨p, xs, _, _, rfl, rfl, hp, atI_nat ex, q', ys, _, _, rfl, rfl, hq, atI_nat ey, _, _, rfl, hit j _ _ ex ey, _, rfl, iteF rfl⟩
    · rintro σ H' ⟨rfl, o, rfl⟩
      simp only [tSeq, tNext, tRet, tRetN, tIfS, tAsg, gName, tDrop, tVar, tC, tOp, tUn, rI, rI0, rU, rEq, rNe, tTest, tB, tNot, tAnd, tOr, tAndV, tOrV, tNotV, tIf, tCB, tCall, tNil, tCons, tTup, tLst, gTup, gCons, gNil, L2.start, rIsi, rIxT, rIxL, cx_K, tyN_non, tyN_bl, tyN_int, tyN_str, isi_ii, isi_ib, isi_it, isi_il, isi_bi, isi_bb, isi_tt, isi_ni, isi_si, isi_ti, isi_li, isi_di, isi_ll, scal_ii, scal_bb, sz0, sz1, sz2, sz3, sz4, List.map_cons, List.map_nil, List.length_cons, List.length_nil, List.replicate, List.cons_append, List.nil_append, List.append_nil, List.getElem?_cons_zero, List.getElem?_cons_succ, List.set_cons_zero, List.set_cons_succ, Option.some.injEq, V.int.injEq, V.bl.injEq, V.ref.injEq, V.ty.injEq, List.cons.injEq, and_true, true_and, exists_eq_left, exists_eq_left', exists_and_left, exists_and_right, exists_eq, exists_eq', and_assoc, Nat.reduceAdd, Nat.reduceSub, Bool.not_true, Bool.not_false, Bool.false_eq_true, if_true, if_false, reduceIte, Nat.zero_add, decide_true, decide_false, selC, comp_K, tYes, Option.join_some, rIxTH, rIxLH, rLenH, rIsiF, at0, at1, at2, at3, at4, at5, at6, at7, at8, HO.tup.injEq, HO.lst.injEq, reduceCtorEq, false_or, or_false, tyF_non, tyF_bl, tyF_int, tyF_str, exists_const, Int.reduceAdd, Int.reduceMul, Int.reduceSub, gSub, rSetL, tSl, tPart, tNoPart, rSlH, upd_same, upd_upd, rIntB, rListH, tBM, tBM0, rAppend, rClear, tPar, gTupH]
      exact q
  have qpss_cons := @pss_cons
  have qps_if := @ps_if
  have qpt_val := @pt_val
  have qpe_callB := @pe_callB
  have qpa2 := @pa2
  have qpv := @pv
  have qpe_bltn := @pe_bltn
  have qpss_one := @pss_one
  have qps_ret := @ps_ret
  have qpe_and := @pe_and
  have qpe_one := @pe_one
  have qpe_cmpR := @pe_cmpR
  have qpss_nil := @pss_nil
  have qpe_call := @pe_call
  have qpa1 := @pa1
  have qpt_not := @pt_not
  have qpe_bl := @pe_bl
  generalize @L2.PE = QE, @L2.PT = QT, @L2.PW = QW, @L2.PA = QA, @L2.PS = QS, @L2.PSs = QSs, @L2.PG = QG, @L2.PGs = QGs, @L2.PI = QI, @L2.PO = QO, @L2.PIf = QIf at qpss_cons qps_if qpt_val qpe_callB qpa2 qpv qpe_bltn qpss_one qps_ret qpe_and qpe_one qpe_cmpR qpss_nil qpe_call qpa1 qpt_not qpe_bl htl ⊢
  refine ⟨_,
    (qpss_cons (qps_if (qpt_val (qpe_callB (isiF call_isi_bool) rfl T.b_isinstance bt_isinstance (qpa2 (qpv 1) ns_Name (qpe_bltn (v := .ty "bool") rfl T.b_bool bt_bool rfl) ns_Name))) (qpss_one (qps_ret (qpe_and (qpe_callB (isiF call_isi_bool) rfl T.b_isinstance bt_isinstance (qpa2 (qpv 0) ns_Name (qpe_bltn (v := .ty "bool") rfl T.b_bool bt_bool rfl) ns_Name)) (qpe_one (qpe_cmpR op_eq (qpv 0) (qpv 1) (nomark _)))))) qpss_nil)
      (qpss_cons (qps_if (qpt_val (qpe_callB (isiF call_isi_int) rfl T.b_isinstance bt_isinstance (qpa2 (qpv 1) ns_Name (qpe_bltn (v := .ty "int") rfl T.b_int bt_int rfl) ns_Name))) (qpss_one (qps_ret (qpe_and (qpe_call (ok_law_whole T) (hr.mono (by omega)) rfl T.law_whole.mg T.law_whole.fn.kp T.law_whole.bn .nil pass0 (qpa1 (qpv 0) ns_Name)) (qpe_one (qpe_cmpR op_eq (qpv 0) (qpv 1) (nomark _)))))) qpss_nil)
      (qpss_cons (qps_if (qpt_val (qpe_callB (isiF call_isi_tuple) rfl T.b_isinstance bt_isinstance (qpa2 (qpv 1) ns_Name (qpe_bltn (v := .ty "tuple") rfl T.b_tuple bt_tuple rfl) ns_Name))) (qpss_one (qps_if (qpt_not (qpt_val (qpe_callB (isiF call_isi_tuple) rfl T.b_isinstance bt_isinstance (qpa2 (qpv 0) ns_Name (qpe_bltn (v := .ty "tuple") rfl T.b_tuple bt_tuple rfl) ns_Name)))) (qpss_one (qps_ret qpe_bl)) qpss_nil)) (qpss_one (qps_if (qpt_not (qpt_val (qpe_callB (isiF call_isi_list) rfl T.b_isinstance bt_isinstance (qpa2 (qpv 0) ns_Name (qpe_bltn (v := .ty "list") rfl T.b_list bt_list rfl) ns_Name)))) (qpss_one (qps_ret qpe_bl)) qpss_nil)))
      htl)))
    , ?_⟩
  clear htl qpss_cons qps_if qpt_val qpe_callB qpa2 qpv qpe_bltn qpss_one qps_ret qpe_and qpe_one qpe_cmpR qpss_nil qpe_call qpa1 qpt_not qpe_bl QE QT QW QA QS QSs QG QGs QI QO QIf
  rcases hal with ⟨i, rfl, rfl⟩ | ⟨p, q', xs, ys, rfl, rfl, ht, hlen, hz, hit⟩
  · simp only [sp_whole, tSeq, tNext, tRet, tRetN, tIfS, tAsg, gName, tDrop, tVar, tC, tOp, tUn, rI, rI0, rU, rEq, rNe, tTest, tB, tNot, tAnd, tOr, tAndV, tOrV, tNotV, tIf, tCB, tCall, tNil, tCons, tTup, tLst, gTup, gCons, gNil, L2.start, rIsi, rIxT, rIxL, cx_K, tyN_non, tyN_bl, tyN_int, tyN_str, isi_ii, isi_ib, isi_it, isi_il, isi_bi, isi_bb, isi_tt, isi_ni, isi_si, isi_ti, isi_li, isi_di, isi_ll, scal_ii, scal_bb, sz0, sz1, sz2, sz3, sz4, List.map_cons, List.map_nil, List.length_cons, List.length_nil, List.replicate, List.cons_append, List.nil_append, List.append_nil, List.getElem?_cons_zero, List.getElem?_cons_succ, List.set_cons_zero, List.set_cons_succ, Option.some.injEq, V.int.injEq, V.bl.injEq, V.ref.injEq, V.ty.injEq, List.cons.injEq, and_true, true_and, exists_eq_left, exists_eq_left', exists_and_left, exists_and_right, exists_eq, exists_eq', and_assoc, Nat.reduceAdd, Nat.reduceSub, Bool.not_true, Bool.not_false, Bool.false_eq_true, if_true, if_false, reduceIte, Nat.zero_add, decide_true, decide_false, selC, comp_K, tYes, Option.join_some, rIxTH, rIxLH, rLenH, rIsiF, at0, at1, at2, at3, at4, at5, at6, at7, at8, HO.tup.injEq, HO.lst.injEq, reduceCtorEq, false_or, or_false, tyF_non, tyF_bl, tyF_int, tyF_str, exists_const, Int.reduceAdd, Int.reduceMul, Int.reduceSub, gSub, rSetL, tSl, tPart, tNoPart, rSlH, upd_same, upd_upd, rIntB, rListH, tBM, tBM0, rAppend, rClear, tPar, gTupH]
    exact q
  · rcases ht with ⟨hp, hq⟩ | ⟨hp, hq⟩
    · simp only [tSeq, tNext, tRet, tRetN, tIfS, tAsg, gName, tDrop, tVar, tC, tOp, tUn, rI, rI0, rU, rEq, rNe, tTest, tB, tNot, tAnd, tOr, tAndV, tOrV, tNotV, tIf, tCB, tCall, tNil, tCons, tTup, tLst, gTup, gCons, gNil, L2.start, rIsi, rIxT, rIxL, cx_K, tyN_non, tyN_bl, tyN_int, tyN_str, isi_ii, isi_ib, isi_it, isi_il, isi_bi, isi_bb, isi_tt, isi_ni, isi_si, isi_ti, isi_li, isi_di, isi_ll, scal_ii, scal_bb, sz0, sz1, sz2, sz3, sz4, List.map_cons, List.map_nil, List.length_cons, List.length_nil, List.replicate, List.cons_append, List.nil_append, List.append_nil, List.getElem?_cons_zero, List.getElem?_cons_succ, List.set_cons_zero, List.set_cons_succ, Option.some.injEq, V.int.injEq, V.bl.injEq, V.ref.injEq, V.ty.injEq, List.cons.injEq, and_true, true_and, exists_eq_left, exists_eq_left', exists_and_left, exists_and_right, exists_eq, exists_eq', and_assoc, Nat.reduceAdd, Nat.reduceSub, Bool.not_true, Bool.not_false, Bool.false_eq_true, if_true, if_false, reduceIte, Nat.zero_add, decide_true, decide_false, selC, comp_K, tYes, Option.join_some, rIxTH, rIxLH, rLenH, rIsiF, at0, at1, at2, at3, at4, at5, at6, at7, at8, HO.tup.injEq, HO.lst.injEq, reduceCtorEq, false_or, or_false, tyF_non, tyF_bl, tyF_int, tyF_str, exists_const, Int.reduceAdd, Int.reduceMul, Int.reduceSub, gSub, rSetL, tSl, tPart, tNoPart, rSlH, upd_same, upd_upd, rIntB, rListH, tBM, tBM0, rAppend, rClear, tPar, gTupH, tyF_tup hp, tyF_tup hq, isi_tb, isi_ti, isi_tt]
      exact hk p q' xs ys none (.inr hp) (.inr hq) hlen hz hit
    · simp only [tSeq, tNext, tRet, tRetN, tIfS, tAsg, gName, tDrop, tVar, tC, tOp, tUn, rI, rI0, rU, rEq, rNe, tTest, tB, tNot, tAnd, tOr, tAndV, tOrV, tNotV, tIf, tCB, tCall, tNil, tCons, tTup, tLst, gTup, gCons, gNil, L2.start, rIsi, rIxT, rIxL, cx_K, tyN_non, tyN_bl, tyN_int, tyN_str, isi_ii, isi_ib, isi_it, isi_il, isi_bi, isi_bb, isi_tt, isi_ni, isi_si, isi_ti, isi_li, isi_di, isi_ll, scal_ii, scal_bb, sz0, sz1, sz2, sz3, sz4, List.map_cons, List.map_nil, List.length_cons, List.length_nil, List.replicate, List.cons_append, List.nil_append, List.append_nil, List.getElem?_cons_zero, List.getElem?_cons_succ, List.set_cons_zero, List.set_cons_succ, Option.some.injEq, V.int.injEq, V.bl.injEq, V.ref.injEq, V.ty.injEq, List.cons.injEq, and_true, true_and, exists_eq_left, exists_eq_left', exists_and_left, exists_and_right, exists_eq, exists_eq', and_assoc, Nat.reduceAdd, Nat.reduceSub, Bool.not_true, Bool.not_false, Bool.false_eq_true, if_true, if_false, reduceIte, Nat.zero_add, decide_true, decide_false, selC, comp_K, tYes, Option.join_some, rIxTH, rIxLH, rLenH, rIsiF, at0, at1, at2, at3, at4, at5, at6, at7, at8, HO.tup.injEq, HO.lst.injEq, reduceCtorEq, false_or, or_false, tyF_non, tyF_bl, tyF_int, tyF_str, exists_const, Int.reduceAdd, Int.reduceMul, Int.reduceSub, gSub, rSetL, tSl, tPart, tNoPart, rSlH, upd_same, upd_upd, rIntB, rListH, tBM, tBM0, rAppend, rClear, tPar, gTupH, tyF_lst hp, tyF_lst hq, isi_lb, isi_li, isi_lt, isi_ll]
      exact hk p q' xs ys none (.inl hp) (.inl hq) hlen hz hit
theorem ok_law_alike (T : Txt K mg ad fd ca) : FnOk P w K mg base CX0 5 (ad 10) (fd 10) ["_law_found", "_law_due"] (sp_alike 4) := okr_law_alike T 4
theorem ok_law_figures (T : Txt K mg ad fd ca) : FnOk P w K mg base CX0 1 (ad 11) (fd 11) ["_law_text"] sp_figs := by
  refine T.law_figures.fn.ok sc_law_figures (fun vs H Q E h => ?_) (fun cdv A outer s H vs Q E hr h => ?_)
  · obtain ⟨x, rfl, _⟩ := h
    rfl
  obtain ⟨x, rfl, hx, k⟩ := h
  have qpss3 := @pss3
  have qps_if := @ps_if
  have qPWpt := @PW.pt
  have qpw_or := @pw_or
  have qpt_cmpR := @pt_cmpR
  have qpe_callB := @pe_callB
  have qpa1 := @pa1
  have qpv := @pv
  have qpe_int := @pe_int
  have qpw_or1 := @pw_or1
  have qpw_and := @pw_and
  have qpe_ix := @pe_ix
  have qpe_str := @pe_str
  have qpw_and1 := @pw_and1
  have qpss_one := @pss_one
  have qps_ret := @ps_ret
  have qpe_un := @pe_un
  have qpss_nil := @pss_nil
  have qps_for := @ps_for
  have qpi_str := @pi_str
  have qpg_name := @pg_name
  have qpe_callTy := @pe_callTy
  generalize @L2.PE = QE, @L2.PT = QT, @L2.PW = QW, @L2.PA = QA, @L2.PS = QS, @L2.PSs = QSs, @L2.PG = QG, @L2.PGs = QGs, @L2.PI = QI, @L2.PO = QO, @L2.PIf = QIf at qpss3 qps_if qPWpt qpw_or qpt_cmpR qpe_callB qpa1 qpv qpe_int qpw_or1 qpw_and qpe_ix qpe_str qpw_and1 qpss_one qps_ret qpe_un qpss_nil qps_for qpi_str qpg_name qpe_callTy ⊢
  refine ⟨_,
    (qpss3
      (qps_if (qPWpt (qpw_or (qpt_cmpR op_eq (qpe_callB call_len_str rfl T.b_len bt_len (qpa1 (qpv 0) ns_Name)) qpe_int (nomark _)) (qpw_or (qpt_cmpR op_gt (qpe_callB call_len_str rfl T.b_len bt_len (qpa1 (qpv 0) ns_Name)) qpe_int (nomark _)) (qpw_or1 (qPWpt (qpw_and (qpt_cmpR op_eq (qpe_ix ix_str (qpv 0) qpe_int (fun _ _ => rfl)) qpe_str (nomark _)) (qpw_and1 (qpt_cmpR op_gt (qpe_callB call_len_str rfl T.b_len bt_len (qpa1 (qpv 0) ns_Name)) qpe_int (nomark _))))))))) (qpss_one (qps_ret (qpe_un un_neg qpe_int))) qpss_nil)
      (qps_for PassesOwn.never rfl (qpi_str (qpv 0)) (qpg_name (i := 1) sc_law_figures.nd rfl (Or.inl rfl)) (qpss_one (qps_if (qpt_cmpR op_notin_str (qpv 1) qpe_str rfl) (qpss_one (qps_ret (qpe_un un_neg qpe_int))) qpss_nil)))
      (qps_ret (qpe_callTy call_intT rfl T.b_int bt_int (qpa1 (qpv 0) ns_Name))))
    , ?_⟩
  clear  qpss3 qps_if qPWpt qpw_or qpt_cmpR qpe_callB qpa1 qpv qpe_int qpw_or1 qpw_and qpe_ix qpe_str qpw_and1 qpss_one qps_ret qpe_un qpss_nil qps_for qpi_str qpg_name qpe_callTy QE QT QW QA QS QSs QG QGs QI QO QIf
  simp only [iStr, rSplit, rStarts, rIntT, rSlS, rMulS, rAll, rIxS, tyV_s, scal_ss, V.str.injEq, tSeq, tNext, tRet, tRetN, tIfS, tAsg, gName, tDrop, tVar, tC, tOp, tUn, rI, rI0, rU, rEq, rNe, tTest, tB, tNot, tAnd, tOr, tAndV, tOrV, tNotV, tIf, tCB, tCall, tNil, tCons, tTup, tLst, gTup, gCons, gNil, L2.start, rIsi, rIxT, rIxL, cx_K, tyN_non, tyN_bl, tyN_int, tyN_str, isi_ii, isi_ib, isi_it, isi_il, isi_bi, isi_bb, isi_tt, isi_ni, isi_si, isi_ti, isi_li, isi_di, isi_ll, scal_ii, scal_bb, sz0, sz1, sz2, sz3, sz4, List.map_cons, List.map_nil, List.length_cons, List.length_nil, List.replicate, List.cons_append, List.nil_append, List.append_nil, List.getElem?_cons_zero, List.getElem?_cons_succ, List.set_cons_zero, List.set_cons_succ, Option.some.injEq, V.int.injEq, V.bl.injEq, V.ref.injEq, V.ty.injEq, List.cons.injEq, and_true, true_and, exists_eq_left, exists_eq_left', exists_and_left, exists_and_right, exists_eq, exists_eq', and_assoc, Nat.reduceAdd, Nat.reduceSub, Bool.not_true, Bool.not_false, Bool.false_eq_true, if_true, if_false, reduceIte, Nat.zero_add, decide_true, decide_false, selC, comp_K, tYes, Option.join_some, rIxTH, rIxLH, rLenH, rIsiF, at0, at1, at2, at3, at4, at5, at6, at7, at8, HO.tup.injEq, HO.lst.injEq, reduceCtorEq, false_or, or_false, tyF_non, tyF_bl, tyF_int, tyF_str, exists_const, Int.reduceAdd, Int.reduceMul, Int.reduceSub, gSub, rSetL, tSl, tPart, tNoPart, rSlH, upd_same, upd_upd, rIntB, rListH, tBM, tBM0, rAppend, rClear, tPar, gTupH]
  generalize hF : tFor _ _ _ _ _ _ = F
  have ll := len_list x
  have hz : x.length ≤ sizeLine := Nat.le_trans hx (by decide)
  have bad : x.cps.toList = [] ∨ 60 < x.cps.toList.length ∨ (x.cps.toList.head? = some 48 ∧ 1 < x.cps.toList.length) → Q (.int (-1)) H := fun z => by
    unfold figV at k
    rw [if_pos z] at k
    exact k
  have hf : ¬ (x.cps.toList = [] ∨ 60 < x.cps.toList.length ∨ (x.cps.toList.head? = some 48 ∧ 1 < x.cps.toList.length)) → F := by
    intro n
    have fv : figV x = if (x.cps.toList.all fun c => decide (48 ≤ c ∧ c ≤ 57)) = true then (NumText.digitsVal x.cps.toList : Int) else -1 := by
      unfold figV
      rw [if_neg n]
    rw [← hF]
    clear hF
    refine tFor_mk ?_
    simp only [iStr, rSplit, rStarts, rIntT, rSlS, rMulS, rAll, rIxS, tyV_s, scal_ss, V.str.injEq, tSeq, tNext, tRet, tRetN, tIfS, tAsg, gName, tDrop, tVar, tC, tOp, tUn, rI, rI0, rU, rEq, rNe, tTest, tB, tNot, tAnd, tOr, tAndV, tOrV, tNotV, tIf, tCB, tCall, tNil, tCons, tTup, tLst, gTup, gCons, gNil, L2.start, rIsi, rIxT, rIxL, cx_K, tyN_non, tyN_bl, tyN_int, tyN_str, isi_ii, isi_ib, isi_it, isi_il, isi_bi, isi_bb, isi_tt, isi_ni, isi_si, isi_ti, isi_li, isi_di, isi_ll, scal_ii, scal_bb, sz0, sz1, sz2, sz3, sz4, List.map_cons, List.map_nil, List.length_cons, List.length_nil, List.replicate, List.cons_append, List.nil_append, List.append_nil, List.getElem?_cons_zero, List.getElem?_cons_succ, List.set_cons_zero, List.set_cons_succ, Option.some.injEq, V.int.injEq, V.bl.injEq, V.ref.injEq, V.ty.injEq, List.cons.injEq, and_true, true_and, exists_eq_left, exists_eq_left', exists_and_left, exists_and_right, exists_eq, exists_eq', and_assoc, Nat.reduceAdd, Nat.reduceSub, Bool.not_true, Bool.not_false, Bool.false_eq_true, if_true, if_false, reduceIte, Nat.zero_add, decide_true, decide_false, selC, comp_K, tYes, Option.join_some, rIxTH, rIxLH, rLenH, rIsiF, at0, at1, at2, at3, at4, at5, at6, at7, at8, HO.tup.injEq, HO.lst.injEq, reduceCtorEq, false_or, or_false, tyF_non, tyF_bl, tyF_int, tyF_str, exists_const, Int.reduceAdd, Int.reduceMul, Int.reduceSub, gSub, rSetL, tSl, tPart, tNoPart, rSlH, upd_same, upd_upd, rIntB, rListH, tBM, tBM0, rAppend, rClear, tPar, gTupH]
    refine forW_str (fun i σ H' => H' = H ∧ (∃ o, σ = [some (.str x), o]) ∧ ∀ c, c ∈ x.cps.toList.take i → 48 ≤ c ∧ c ≤ 57) ⟨rfl, ⟨_, rfl⟩, by simp⟩ ?_ ?_
    · rintro i c σ H' hc ⟨rfl, ⟨o, rfl⟩, hall⟩
      simp only [iStr, rSplit, rStarts, rIntT, rSlS, rMulS, rAll, rIxS, tyV_s, scal_ss, V.str.injEq, tSeq, tNext, tRet, tRetN, tIfS, tAsg, gName, tDrop, tVar, tC, tOp, tUn, rI, rI0, rU, rEq, rNe, tTest, tB, tNot, tAnd, tOr, tAndV, tOrV, tNotV, tIf, tCB, tCall, tNil, tCons, tTup, tLst, gTup, gCons, gNil, L2.start, rIsi, rIxT, rIxL, cx_K, tyN_non, tyN_bl, tyN_int, tyN_str, isi_ii, isi_ib, isi_it, isi_il, isi_bi, isi_bb, isi_tt, isi_ni, isi_si, isi_ti, isi_li, isi_di, isi_ll, scal_ii, scal_bb, sz0, sz1, sz2, sz3, sz4, List.map_cons, List.map_nil, List.length_cons, List.length_nil, List.replicate, List.cons_append, List.nil_append, List.append_nil, List.getElem?_cons_zero, List.getElem?_cons_succ, List.set_cons_zero, List.set_cons_succ, Option.some.injEq, V.int.injEq, V.bl.injEq, V.ref.injEq, V.ty.injEq, List.cons.injEq, and_true, true_and, exists_eq_left, exists_eq_left', exists_and_left, exists_and_right, exists_eq, exists_eq', and_assoc, Nat.reduceAdd, Nat.reduceSub, Bool.not_true, Bool.not_false, Bool.false_eq_true, if_true, if_false, reduceIte, Nat.zero_add, decide_true, decide_false, selC, comp_K, tYes, Option.join_some, rIxTH, rIxLH, rLenH, rIsiF, at0, at1, at2, at3, at4, at5, at6, at7, at8, HO.tup.injEq, HO.lst.injEq, reduceCtorEq, false_or, or_false, tyF_non, tyF_bl, tyF_int, tyF_str, exists_const, Int.reduceAdd, Int.reduceMul, Int.reduceSub, gSub, rSetL, tSl, tPart, tNoPart, rSlH, upd_same, upd_upd, rIntB, rListH, tBM, tBM0, rAppend, rClear, tPar, gTupH]
      rw [in_figs]
      have hc' : x.cps.toList[i]? = some c := by rw [Array.getElem?_toList]; exact hc
      refine ite2 (fun c2 => ?_) (fun c2 => ?_)
      · have na : ¬ (x.cps.toList.all fun c => decide (48 ≤ c ∧ c ≤ 57)) = true := by
          intro a
          have := all_dig.mp a c (List.mem_of_getElem? hc')
          rw [decide_eq_true this] at c2
          cases c2
        rw [fv, if_neg na] at k
        exact k
      · intro d hd
        rw [List.take_add_one, hc'] at hd
        rcases List.mem_append.mp hd with hd | hd
        · exact hall d hd
        · have : d = c := by simpa using hd
          subst this
          by_cases z : 48 ≤ d ∧ d ≤ 57
          · exact z
          · exact absurd (by rw [decide_eq_false z]; rfl) c2
    · rintro σ H' ⟨rfl, ⟨o, rfl⟩, hall⟩
      simp only [iStr, rSplit, rStarts, rIntT, rSlS, rMulS, rAll, rIxS, tyV_s, scal_ss, V.str.injEq, tSeq, tNext, tRet, tRetN, tIfS, tAsg, gName, tDrop, tVar, tC, tOp, tUn, rI, rI0, rU, rEq, rNe, tTest, tB, tNot, tAnd, tOr, tAndV, tOrV, tNotV, tIf, tCB, tCall, tNil, tCons, tTup, tLst, gTup, gCons, gNil, L2.start, rIsi, rIxT, rIxL, cx_K, tyN_non, tyN_bl, tyN_int, tyN_str, isi_ii, isi_ib, isi_it, isi_il, isi_bi, isi_bb, isi_tt, isi_ni, isi_si, isi_ti, isi_li, isi_di, isi_ll, scal_ii, scal_bb, sz0, sz1, sz2, sz3, sz4, List.map_cons, List.map_nil, List.length_cons, List.length_nil, List.replicate, List.cons_append, List.nil_append, List.append_nil, List.getElem?_cons_zero, List.getElem?_cons_succ, List.set_cons_zero, List.set_cons_succ, Option.some.injEq, V.int.injEq, V.bl.injEq, V.ref.injEq, V.ty.injEq, List.cons.injEq, and_true, true_and, exists_eq_left, exists_eq_left', exists_and_left, exists_and_right, exists_eq, exists_eq', and_assoc, Nat.reduceAdd, Nat.reduceSub, Bool.not_true, Bool.not_false, Bool.false_eq_true, if_true, if_false, reduceIte, Nat.zero_add, decide_true, decide_false, selC, comp_K, tYes, Option.join_some, rIxTH, rIxLH, rLenH, rIsiF, at0, at1, at2, at3, at4, at5, at6, at7, at8, HO.tup.injEq, HO.lst.injEq, reduceCtorEq, false_or, or_false, tyF_non, tyF_bl, tyF_int, tyF_str, exists_const, Int.reduceAdd, Int.reduceMul, Int.reduceSub, gSub, rSetL, tSl, tPart, tNoPart, rSlH, upd_same, upd_upd, rIntB, rListH, tBM, tBM0, rAppend, rClear, tPar, gTupH]
      rw [← Array.length_toList, List.take_length] at hall
      have a : (x.cps.toList.all fun c => decide (48 ≤ c ∧ c ≤ 57)) = true := all_dig.mpr hall
      rw [if_pos a] at fv
      exact ⟨_, figV_int (by rw [fv]; omega), by omega, k⟩
  refine ⟨hz, ite2 (fun c => bad (.inl ?_)) (fun c => ⟨hz, ite2 (fun c2 => bad (.inr (.inl ?_))) (fun c2 => ⟨hz, ?_⟩)⟩)⟩
  · have := of_decide_eq_true c
    exact List.eq_nil_of_length_eq_zero (by omega)
  · have := of_decide_eq_true c2
    omega
  · have n0 : ¬ (x.length : Int) = 0 := fun z => c (decide_eq_true z)
    have n1 : ¬ (60 : Int) < (x.length : Int) := fun z => c2 (decide_eq_true z)
    obtain ⟨d, r, e⟩ : ∃ d r, x.cps.toList = d :: r := by
      cases e : x.cps.toList with
      | nil => rw [e] at ll; simp at ll; omega
      | cons d r => exact ⟨d, r, rfl⟩
    have hd : x.cps.toList.head? = some d := by rw [e]; rfl
    have ed : (({ cps := #[d] } : Str) = Str.ofString "0") ↔ d = 48 := by
      rw [str_eq, mk_nought]
      simp
    refine ⟨d, by rw [e]; exact at0, ite2 (fun c3 => ⟨hz, ite2 (fun c4 => bad (.inr (.inr ⟨?_, ?_⟩))) (fun c4 => hf ?_)⟩) (fun c3 => hf ?_)⟩
    · rw [hd, ed.mp (of_decide_eq_true c3)]
    · have := of_decide_eq_true c4
      omega
    · have n4 : ¬ (1 : Int) < (x.length : Int) := fun z => c4 (decide_eq_true z)
      rintro (z | z | z)
      · rw [e] at z; cases z
      · omega
      · omega
    · have n3 : ¬ d = 48 := fun z => c3 (decide_eq_true (ed.mpr z))
      rintro (z | z | z)
      · rw [e] at z; cases z
      · omega
      · rw [hd] at z; exact n3 (Option.some.inj z.1)
theorem ok_law_divisor (T : Txt K mg ad fd ca) : FnOk P w K mg base CX0 1 (ad 12) (fd 12) ["_law_one", "_law_other"] sp_ndiv := by
  refine T.law_divisor.fn.ok sc_law_divisor (fun vs H Q E h => ?_) (fun cdv A outer s H vs Q E hr h => ?_)
  · obtain ⟨a, b, rfl, _⟩ := h
    rfl
  obtain ⟨a, b, rfl, ha, hb, q⟩ := h
  have qpss2 := @pss2
  have qps_while := @ps_while
  have qpt_cmpR := @pt_cmpR
  have qpv := @pv
  have qpe_int := @pe_int
  have qpss3 := @pss3
  have qps_set := @ps_set
  have qpe_op := @pe_op
  have qps_ret := @ps_ret
  generalize @L2.PE = QE, @L2.PT = QT, @L2.PW = QW, @L2.PA = QA, @L2.PS = QS, @L2.PSs = QSs, @L2.PG = QG, @L2.PGs = QGs, @L2.PI = QI, @L2.PO = QO, @L2.PIf = QIf at qpss2 qps_while qpt_cmpR qpv qpe_int qpss3 qps_set qpe_op qps_ret ⊢
  refine ⟨_,
    (qpss2
      (qps_while PassesOwn.never (qpt_cmpR op_ne (qpv 1) qpe_int (nomark _)) (qpss3
      (qps_set (i := 2) sc_law_divisor.nd rfl (Or.inl rfl) (qpe_op op_modN (qpv 0) (qpv 1)))
      (qps_set (i := 0) sc_law_divisor.nd rfl (Or.inl rfl) (qpv 1))
      (qps_set (i := 1) sc_law_divisor.nd rfl (Or.inl rfl) (qpv 2))))
      (qps_ret (qpv 0)))
    , ?_⟩
  clear  qpss2 qps_while qpt_cmpR qpv qpe_int qpss3 qps_set qpe_op qps_ret QE QT QW QA QS QSs QG QGs QI QO QIf
  simp only [iStr, rSplit, rStarts, rIntT, rSlS, rMulS, rAll, rIxS, tyV_s, scal_ss, V.str.injEq, tSeq, tNext, tRet, tRetN, tIfS, tAsg, gName, tDrop, tVar, tC, tOp, tUn, rI, rI0, rU, rEq, rNe, tTest, tB, tNot, tAnd, tOr, tAndV, tOrV, tNotV, tIf, tCB, tCall, tNil, tCons, tTup, tLst, gTup, gCons, gNil, L2.start, rIsi, rIxT, rIxL, cx_K, tyN_non, tyN_bl, tyN_int, tyN_str, isi_ii, isi_ib, isi_it, isi_il, isi_bi, isi_bb, isi_tt, isi_ni, isi_si, isi_ti, isi_li, isi_di, isi_ll, scal_ii, scal_bb, sz0, sz1, sz2, sz3, sz4, List.map_cons, List.map_nil, List.length_cons, List.length_nil, List.replicate, List.cons_append, List.nil_append, List.append_nil, List.getElem?_cons_zero, List.getElem?_cons_succ, List.set_cons_zero, List.set_cons_succ, Option.some.injEq, V.int.injEq, V.bl.injEq, V.ref.injEq, V.ty.injEq, List.cons.injEq, and_true, true_and, exists_eq_left, exists_eq_left', exists_and_left, exists_and_right, exists_eq, exists_eq', and_assoc, Nat.reduceAdd, Nat.reduceSub, Bool.not_true, Bool.not_false, Bool.false_eq_true, if_true, if_false, reduceIte, Nat.zero_add, decide_true, decide_false, selC, comp_K, tYes, Option.join_some, rIxTH, rIxLH, rLenH, rIsiF, at0, at1, at2, at3, at4, at5, at6, at7, at8, HO.tup.injEq, HO.lst.injEq, reduceCtorEq, false_or, or_false, tyF_non, tyF_bl, tyF_int, tyF_str, exists_const, Int.reduceAdd, Int.reduceMul, Int.reduceSub, gSub, rSetL, tSl, tPart, tNoPart, rSlH, upd_same, upd_upd, rIntB, rListH, tBM, tBM0, rAppend, rClear, tPar, gTupH]
  refine while_by (iv_law_divisor a b H) (fun σ _ => (getI σ 1).toNat) ⟨rfl, _, _, _, rfl, ha, hb, rfl⟩ ?_
    (fun σ H Q Q' m h => by obtain ⟨v, e, s, k, e2, q⟩ := h; exact ⟨v, e, s, k, e2, m _ _ q⟩)
  rintro σ H' ⟨rfl, x, y, r, rfl, hx, hy, e⟩
  simp only [iStr, rSplit, rStarts, rIntT, rSlS, rMulS, rAll, rIxS, tyV_s, scal_ss, V.str.injEq, tSeq, tNext, tRet, tRetN, tIfS, tAsg, gName, tDrop, tVar, tC, tOp, tUn, rI, rI0, rU, rEq, rNe, tTest, tB, tNot, tAnd, tOr, tAndV, tOrV, tNotV, tIf, tCB, tCall, tNil, tCons, tTup, tLst, gTup, gCons, gNil, L2.start, rIsi, rIxT, rIxL, cx_K, tyN_non, tyN_bl, tyN_int, tyN_str, isi_ii, isi_ib, isi_it, isi_il, isi_bi, isi_bb, isi_tt, isi_ni, isi_si, isi_ti, isi_li, isi_di, isi_ll, scal_ii, scal_bb, sz0, sz1, sz2, sz3, sz4, List.map_cons, List.map_nil, List.length_cons, List.length_nil, List.replicate, List.cons_append, List.nil_append, List.append_nil, List.getElem?_cons_zero, List.getElem?_cons_succ, List.set_cons_zero, List.set_cons_succ, Option.some.injEq, V.int.injEq, V.bl.injEq, V.ref.injEq, V.ty.injEq, List.cons.injEq, and_true, true_and, exists_eq_left, exists_eq_left', exists_and_left, exists_and_right, exists_eq, exists_eq', and_assoc, Nat.reduceAdd, Nat.reduceSub, Bool.not_true, Bool.not_false, Bool.false_eq_true, if_true, if_false, reduceIte, Nat.zero_add, decide_true, decide_false, selC, comp_K, tYes, Option.join_some, rIxTH, rIxLH, rLenH, rIsiF, at0, at1, at2, at3, at4, at5, at6, at7, at8, HO.tup.injEq, HO.lst.injEq, reduceCtorEq, false_or, or_false, tyF_non, tyF_bl, tyF_int, tyF_str, exists_const, Int.reduceAdd, Int.reduceMul, Int.reduceSub, gSub, rSetL, tSl, tPart, tNoPart, rSlH, upd_same, upd_upd, rIntB, rListH, tBM, tBM0, rAppend, rClear, tPar, gTupH]
  refine ite2 (fun c => ?_) (fun c => ?_)
  · have hy0 : 0 < y := by
      have : ¬ y = 0 := by simpa using c
      omega
    obtain ⟨h1, h2, h3⟩ := turn e hy0
    exact ⟨by omega, ⟨rfl, _, _, _, rfl, h1, h2, h3⟩, less hy0⟩
  · have hy0 : y = 0 := by simpa using c
    rw [← e, ← G_zero hx hy0] at q
    exact q
theorem ok_law_number (T : Txt K mg ad fd ca) : FnOk P w K mg base CX0 2 (ad 13) (fd 13) ["_law_text"] sp_lnum := by
  refine T.law_number.fn.ok sc_law_number (fun vs H Q E h => ?_) (fun cdv A outer s H vs Q E hr h => ?_)
  · obtain ⟨x, rfl, _⟩ := h
    rfl
  obtain ⟨x, rfl, hx, h⟩ := h
  obtain ⟨tl, htl, hk⟩ : ∃ tl, PSs (cxOf CX0 P w K mg base ["_law_text", "_law_parts", "_law_sign", "_law_head", "_law_top", "_law_bottom"] "_law_number" (defScope s_law_number) (ad 13) cdv A outer s H E).nox ((defBody s_law_number).drop 4) tl ∧ ∀ (D : Addr) (s : Int) (a : Str) (r : List Str) (f : Str) (H1 : Hp), Txt.split x (Str.ofString "/") = a :: r → H1 D = some (.lst ((a :: r).map V.str)) → Same H H1 → f.length ≤ 1000 → (s = 1 ∨ s = -1) → (wholeV a = if figV f < 0 ∨ (s < 0 ∧ figV f = 0) then none else some (s * figV f)) →
      tl { nx := fun _ H' => Q .non H', rt := Q } [some (.str x), some (.ref D), some (.int s), some (.str f), none, none] H1 := by
    have qpss6 := @pss6
    have qps_set := @ps_set
    have qpe_call := @pe_call
    have qpa1 := @pa1
    have qpv := @pv
    have qps_if := @ps_if
    have qPWpt := @PW.pt
    have qpw_or := @pw_or
    have qpt_cmpR := @pt_cmpR
    have qpe_callB := @pe_callB
    have qpe_int := @pe_int
    have qpw_or1 := @pw_or1
    have qpw_and := @pw_and
    have qpw_and1 := @pw_and1
    have qpss_one := @pss_one
    have qps_ret := @ps_ret
    have qpe_non := @pe_non
    have qpss_nil := @pss_nil
    have qpe_tup := @pe_tup
    have qpa2 := @pa2
    have qpe_op := @pe_op
    have qpe_ix := @pe_ix
    generalize @L2.PE = QE, @L2.PT = QT, @L2.PW = QW, @L2.PA = QA, @L2.PS = QS, @L2.PSs = QSs, @L2.PG = QG, @L2.PGs = QGs, @L2.PI = QI, @L2.PO = QO, @L2.PIf = QIf at qpss6 qps_set qpe_call qpa1 qpv qps_if qPWpt qpw_or qpt_cmpR qpe_callB qpe_int qpw_or1 qpw_and qpw_and1 qpss_one qps_ret qpe_non qpss_nil qpe_tup qpa2 qpe_op qpe_ix ⊢
    refine ⟨_,
    (qpss6
      (qps_set (i := 4) sc_law_number.nd rfl (Or.inl rfl) (qpe_call (ok_law_figures T) (hr.mono (by decide)) rfl T.law_figures.mg T.law_figures.fn.kp T.law_figures.bn .nil pass0 (qpa1 (qpv 3) ns_Name)))
      (qps_if (qPWpt (qpw_or (qpt_cmpR op_gt (qpe_callB call_lenH rfl T.b_len bt_len (qpa1 (qpv 1) ns_Name)) qpe_int (nomark _)) (qpw_or (qpt_cmpR op_lt (qpv 4) qpe_int (nomark _)) (qpw_or1 (qPWpt (qpw_and (qpt_cmpR op_lt (qpv 2) qpe_int (nomark _)) (qpw_and1 (qpt_cmpR op_eq (qpv 4) qpe_int (nomark _))))))))) (qpss_one (qps_ret qpe_non)) qpss_nil)
      (qps_if (qpt_cmpR op_eq (qpe_callB call_lenH rfl T.b_len bt_len (qpa1 (qpv 1) ns_Name)) qpe_int (nomark _)) (qpss_one (qps_ret (qpe_tup (qpa2 (qpe_op op_mulB (qpv 2) (qpv 4)) ns_BinOp qpe_int ns_Constant)))) qpss_nil)
      (qps_set (i := 5) sc_law_number.nd rfl (Or.inl rfl) (qpe_call (ok_law_figures T) (hr.mono (by decide)) rfl T.law_figures.mg T.law_figures.fn.kp T.law_figures.bn .nil pass0 (qpa1 (qpe_ix ix_listH (qpv 1) qpe_int (fun _ _ => rfl)) ns_Subscript)))
      (qps_if (qPWpt (qpw_or (qpt_cmpR op_lt (qpv 5) qpe_int (nomark _)) (qpw_or1 (qpt_cmpR op_ne (qpe_call (ok_law_divisor T) (hr.mono (by decide)) rfl T.law_divisor.mg T.law_divisor.fn.kp T.law_divisor.bn .nil pass0 (qpa2 (qpv 4) ns_Name (qpv 5) ns_Name)) qpe_int (nomark _))))) (qpss_one (qps_ret qpe_non)) qpss_nil)
      (qps_ret (qpe_tup (qpa2 (qpe_op op_mulB (qpv 2) (qpv 4)) ns_BinOp (qpv 5) ns_Name))))
      , fun D s a r f H1 hL hD g1 hf hs hw => ?_⟩
    clear  qpss6 qps_set qpe_call qpa1 qpv qps_if qPWpt qpw_or qpt_cmpR qpe_callB qpe_int qpw_or1 qpw_and qpw_and1 qpss_one qps_ret qpe_non qpss_nil qpe_tup qpa2 qpe_op qpe_ix QE QT QW QA QS QSs QG QGs QI QO QIf
    simp only [sp_figs, sp_ndiv, iStr, rSplit, rStarts, rIntT, rSlS, rMulS, rAll, rIxS, tyV_s, scal_ss, V.str.injEq, tSeq, tNext, tRet, tRetN, tIfS, tAsg, gName, tDrop, tVar, tC, tOp, tUn, rI, rI0, rU, rEq, rNe, tTest, tB, tNot, tAnd, tOr, tAndV, tOrV, tNotV, tIf, tCB, tCall, tNil, tCons, tTup, tLst, gTup, gCons, gNil, L2.start, rIsi, rIxT, rIxL, cx_K, tyN_non, tyN_bl, tyN_int, tyN_str, isi_ii, isi_ib, isi_it, isi_il, isi_bi, isi_bb, isi_tt, isi_ni, isi_si, isi_ti, isi_li, isi_di, isi_ll, scal_ii, scal_bb, sz0, sz1, sz2, sz3, sz4, List.map_cons, List.map_nil, List.length_cons, List.length_nil, List.replicate, List.cons_append, List.nil_append, List.append_nil, List.getElem?_cons_zero, List.getElem?_cons_succ, List.set_cons_zero, List.set_cons_succ, Option.some.injEq, V.int.injEq, V.bl.injEq, V.ref.injEq, V.ty.injEq, List.cons.injEq, and_true, true_and, exists_eq_left, exists_eq_left', exists_and_left, exists_and_right, exists_eq, exists_eq', and_assoc, Nat.reduceAdd, Nat.reduceSub, Bool.not_true, Bool.not_false, Bool.false_eq_true, if_true, if_false, reduceIte, Nat.zero_add, decide_true, decide_false, selC, comp_K, tYes, Option.join_some, rIxTH, rIxLH, rLenH, rIsiF, at0, at1, at2, at3, at4, at5, at6, at7, at8, HO.tup.injEq, HO.lst.injEq, reduceCtorEq, false_or, or_false, tyF_non, tyF_bl, tyF_int, tyF_str, exists_const, Int.reduceAdd, Int.reduceMul, Int.reduceSub, gSub, rSetL, tSl, tPart, tNoPart, rSlH, upd_same, upd_upd, rIntB, rListH, tBM, tBM0, rAppend, rClear, tPar, gTupH, hD]
    have cb : CBig s (figV f) := cbig (m := 2) (by rcases hs with rfl | rfl <;> decide) (figV_lt f)
    have gs : ∀ u, G (s * figV f) u = G (figV f) u := by
      intro u
      rcases hs with rfl | rfl
      · rw [Int.one_mul]
      · rw [Int.neg_one_mul]
        show ((Nat.gcd (-figV f).natAbs u.natAbs : Nat) : Int) = _
        rw [Int.natAbs_neg]
        rfl
    have hnone : numV x = none → Q .non H1 := fun e => by
      rcases h with ⟨_, k⟩ | ⟨t, u, e', _⟩
      · exact k _ g1
      · rw [e] at e'; cases e'
    have hsome : ∀ (t u : Int) (p : Addr), numV x = some (t, u) → H1 p = none → Q (.ref p) (upd H1 p (.tup [.int t, .int u])) := fun t u p e hp => by
      rcases h with ⟨e', k⟩ | ⟨t', u', e', k⟩
      · rw [e] at e'; cases e'
      · rw [e] at e'; cases e'
        exact k p _ (g1.trans (same_new hp _)) upd_same
    generalize hF : (if decide (((List.map V.str r).length + 1 : Nat) = (1 : Int)) = true then _ else _) = F
    have hgo : ¬ (figV f < 0 ∨ (s < 0 ∧ figV f = 0)) → ¬ 2 < r.length + 1 → F := by
      intro nb n2
      rw [if_neg nb] at hw
      rw [← hF]
      clear hF
      match r, hL, n2 with
      | [], hL, _ =>
        exact ite2 (fun _ => ⟨cb, fun p hp => hsome _ _ p (by unfold numV; rw [hL]; simp only; rw [hw]) hp⟩) (fun c => absurd (decide_eq_true rfl) c)
      | [b], hL, _ =>
        refine ite2 (fun c => absurd (of_decide_eq_true c) (by simp)) (fun _ => ⟨_, at1, b, rfl, Nat.le_trans (split_mem (by rw [hL]; simp)) hx, ?_⟩)
        by_cases u2 : figV b < 2
        · refine ite2 (fun _ => hnone ?_) (fun c => absurd (decide_eq_true u2) c)
          unfold numV
          rw [hL]
          simp only
          rw [hw]
          by_cases mb : b.cps.toList.head? = some 45
          · rw [whole_minus mb]
            by_cases z : figV (noMinus b) ≤ 0
            · rw [if_pos z]
            · rw [if_neg z]
              simp only
              rw [if_pos (.inl (by omega))]
          · rw [whole_plain mb]
            by_cases z : figV b < 0
            · rw [if_pos z]
            · rw [if_neg z]
              simp only
              rw [if_pos (.inl (by omega))]
        · refine ite2 (fun c => absurd (of_decide_eq_true c) u2) (fun _ => ⟨by omega, by omega, ?_⟩)
          have mb : ¬ b.cps.toList.head? = some 45 := fun z => by rw [figV_minus z] at u2; omega
          have wb : wholeV b = some (figV b) := by rw [whole_plain mb, if_neg (by omega)]
          have nv : numV x = if figV b < 2 ∨ ¬ G (s * figV f) (figV b) = 1 then none else some (s * figV f, figV b) := by
            unfold numV
            rw [hL]
            simp only
            rw [hw, wb]
          rw [gs] at nv
          by_cases c : G (figV f) (figV b) = 1
          · rw [if_neg (by rintro (z | z); exact u2 z; exact z c)] at nv
            rw [c]
            exact iteF ⟨cb, fun p hp => hsome _ _ p nv hp⟩
          · rw [if_pos (.inr c)] at nv
            rw [decide_eq_false c]
            exact iteT (hnone nv)
      | b :: c :: q, _, n2 => exact absurd (by simp) n2
    refine ⟨hf, ite2 (fun c => hnone ?_) (fun c => ite2 (fun c1 => hnone ?_) (fun c1 => ite2 (fun c2 => ite2 (fun c3 => hnone ?_) (fun c3 => hgo ?_ ?_)) (fun c2 => hgo ?_ ?_)))⟩
    · have c := of_decide_eq_true c
      match r, hL, c with
      | [], _, c => exact absurd c (by simp)
      | [b], _, c => exact absurd c (by simp)
      | b :: d :: q, hL, _ => unfold numV; rw [hL]
    · have wn : wholeV a = none := by rw [hw, if_pos (.inl (of_decide_eq_true c1))]
      unfold numV
      rw [hL]
      match r with
      | [] => simp only; rw [wn]
      | [b] => simp only; rw [wn]
      | b :: d :: q => rfl
    · have wn : wholeV a = none := by rw [hw, if_pos (.inr ⟨of_decide_eq_true c2, of_decide_eq_true c3⟩)]
      unfold numV
      rw [hL]
      match r with
      | [] => simp only; rw [wn]
      | [b] => simp only; rw [wn]
      | b :: d :: q => rfl
    · rintro (z | z)
      · exact c1 (decide_eq_true z)
      · exact c3 (decide_eq_true z.2)
    · intro z
      exact c (decide_eq_true (by rw [List.length_map]; omega))
    · rintro (z | z)
      · exact c1 (decide_eq_true z)
      · exact c2 (decide_eq_true z.1)
    · intro z
      exact c (decide_eq_true (by rw [List.length_map]; omega))
  have qpss_cons := @pss_cons
  have qps_set := @ps_set
  have qpe_bm := @pe_bm
  have qpv := @pv
  have qpa1 := @pa1
  have qpe_str := @pe_str
  have qpe_int := @pe_int
  have qpe_ix := @pe_ix
  have qps_if := @ps_if
  have qpt_cmpR := @pt_cmpR
  have qpe_slice := @pe_slice
  have qpo_none := @po_none
  have qpo_some := @po_some
  have qpss2 := @pss2
  have qpe_un := @pe_un
  have qpss_nil := @pss_nil
  generalize @L2.PE = QE, @L2.PT = QT, @L2.PW = QW, @L2.PA = QA, @L2.PS = QS, @L2.PSs = QSs, @L2.PG = QG, @L2.PGs = QGs, @L2.PI = QI, @L2.PO = QO, @L2.PIf = QIf at qpss_cons qps_set qpe_bm qpv qpa1 qpe_str qpe_int qpe_ix qps_if qpt_cmpR qpe_slice qpo_none qpo_some qpss2 qpe_un qpss_nil htl ⊢
  refine ⟨_,
    (qpss_cons (qps_set (i := 1) sc_law_number.nd rfl (Or.inl rfl) (qpe_bm PySem.F.plainAttrs_str PySem.F.slot_str_split PySem.F.type_str_split mt_split (qpv 0) (qpa1 qpe_str ns_Constant)))
      (qpss_cons (qps_set (i := 2) sc_law_number.nd rfl (Or.inl rfl) qpe_int)
      (qpss_cons (qps_set (i := 3) sc_law_number.nd rfl (Or.inl rfl) (qpe_ix ix_listH (qpv 1) qpe_int (fun _ _ => rfl)))
      (qpss_cons (qps_if (qpt_cmpR op_eq (qpe_slice sl_str (qpv 3) qpo_none (qpo_some qpe_int)) qpe_str (nomark _)) (qpss2
      (qps_set (i := 2) sc_law_number.nd rfl (Or.inl rfl) (qpe_un un_neg qpe_int))
      (qps_set (i := 3) sc_law_number.nd rfl (Or.inl rfl) (qpe_slice sl_str (qpv 3) (qpo_some qpe_int) qpo_none))) qpss_nil)
      htl))))
    , ?_⟩
  clear htl qpss_cons qps_set qpe_bm qpv qpa1 qpe_str qpe_int qpe_ix qps_if qpt_cmpR qpe_slice qpo_none qpo_some qpss2 qpe_un qpss_nil QE QT QW QA QS QSs QG QGs QI QO QIf
  simp only [iStr, rSplit, rStarts, rIntT, rSlS, rMulS, rAll, rIxS, tyV_s, scal_ss, V.str.injEq, tSeq, tNext, tRet, tRetN, tIfS, tAsg, gName, tDrop, tVar, tC, tOp, tUn, rI, rI0, rU, rEq, rNe, tTest, tB, tNot, tAnd, tOr, tAndV, tOrV, tNotV, tIf, tCB, tCall, tNil, tCons, tTup, tLst, gTup, gCons, gNil, L2.start, rIsi, rIxT, rIxL, cx_K, tyN_non, tyN_bl, tyN_int, tyN_str, isi_ii, isi_ib, isi_it, isi_il, isi_bi, isi_bb, isi_tt, isi_ni, isi_si, isi_ti, isi_li, isi_di, isi_ll, scal_ii, scal_bb, sz0, sz1, sz2, sz3, sz4, List.map_cons, List.map_nil, List.length_cons, List.length_nil, List.replicate, List.cons_append, List.nil_append, List.append_nil, List.getElem?_cons_zero, List.getElem?_cons_succ, List.set_cons_zero, List.set_cons_succ, Option.some.injEq, V.int.injEq, V.bl.injEq, V.ref.injEq, V.ty.injEq, List.cons.injEq, and_true, true_and, exists_eq_left, exists_eq_left', exists_and_left, exists_and_right, exists_eq, exists_eq', and_assoc, Nat.reduceAdd, Nat.reduceSub, Bool.not_true, Bool.not_false, Bool.false_eq_true, if_true, if_false, reduceIte, Nat.zero_add, decide_true, decide_false, selC, comp_K, tYes, Option.join_some, rIxTH, rIxLH, rLenH, rIsiF, at0, at1, at2, at3, at4, at5, at6, at7, at8, HO.tup.injEq, HO.lst.injEq, reduceCtorEq, false_or, or_false, tyF_non, tyF_bl, tyF_int, tyF_str, exists_const, Int.reduceAdd, Int.reduceMul, Int.reduceSub, gSub, rSetL, tSl, tPart, tNoPart, rSlH, upd_same, upd_upd, rIntB, rListH, tBM, tBM0, rAppend, rClear, tPar, gTupH]
  have sl := split_len (x := x) (y := Str.ofString "/") (by rw [len_slash]; decide)
  have sm : ∀ p, p ∈ Txt.split x (Str.ofString "/") → p.length ≤ 1000 := fun p hp => Nat.le_trans (split_mem hp) hx
  have sn := split_ne x (Str.ofString "/")
  refine ⟨by rw [len_slash]; rfl, hx, sz_of (by omega), fun D hD => ?_⟩
  obtain ⟨a, r, hL⟩ : ∃ a r, Txt.split x (Str.ofString "/") = a :: r := by
    cases e : Txt.split x (Str.ofString "/") with
    | nil => exact absurd e sn
    | cons a r => exact ⟨a, r, rfl⟩
  rw [hL]
  have g1 := same_new hD (HO.lst ((a :: r).map V.str))
  have d1 : upd H D (HO.lst ((a :: r).map V.str)) D = some (HO.lst ((a :: r).map V.str)) := upd_same
  generalize upd H D (HO.lst ((a :: r).map V.str)) = H1 at *
  have la : a.length ≤ 1000 := sm a (by rw [hL]; exact List.mem_cons_self ..)
  have st : (Txt.slice a none (some 1) = Str.ofString "-") ↔ a.cps.toList.head? = some 45 := by
    rw [str_eq, slice_to1, mk_minus]
    cases a.cps.toList with
    | nil => simp
    | cons d q => simp
  refine ⟨_, at0, a, rfl, sz_of (by omega), ite2 (fun c => ?_) (fun c => ?_)⟩
  · have c' := st.mp (of_decide_eq_true c)
    refine ⟨a, rfl, sz_of (by omega), hk D (-1) a r _ H1 hL d1 g1 (Nat.le_trans (Txt.slice_le _ _ _) la) (.inr rfl) ?_⟩
    have e : Txt.slice a (some 1) none = noMinus a := by
      unfold noMinus
      rw [starts_one a 45 _ mk_minus, decide_eq_true c', if_pos rfl]
    rw [e, whole_minus c']
    by_cases z : figV (noMinus a) ≤ 0
    · rw [if_pos z, if_pos (by omega)]
    · rw [if_neg z, if_neg (by omega), Int.neg_one_mul]
  · have c' : ¬ a.cps.toList.head? = some 45 := fun z => c (decide_eq_true (st.mpr z))
    refine hk D 1 a r _ H1 hL d1 g1 la (.inl rfl) ?_
    rw [whole_plain c']
    by_cases z : figV a < 0
    · rw [if_pos z, if_pos (.inl z)]
    · rw [if_neg z, if_neg (by omega), Int.one_mul]
theorem ok_law_point (T : Txt K mg ad fd ca) : FnOk P w K mg base CX0 3 (ad 14) (fd 14) ["_law_text"] sp_lpt := by
  refine T.law_point.fn.ok sc_law_point (fun vs H Q E h => ?_) (fun cdv A outer s H vs Q E hr h => ?_)
  · obtain ⟨x, rfl, _⟩ := h
    rfl
  obtain ⟨x, rfl, hx, h⟩ := h
  have qpss7 := @pss7
  have qps_set := @ps_set
  have qpe_bm := @pe_bm
  have qpv := @pv
  have qpa1 := @pa1
  have qpe_str := @pe_str
  have qps_if := @ps_if
  have qpt_cmpR := @pt_cmpR
  have qpe_callB := @pe_callB
  have qpe_int := @pe_int
  have qpss_one := @pss_one
  have qps_ret := @ps_ret
  have qpe_non := @pe_non
  have qpss_nil := @pss_nil
  have qpe_call := @pe_call
  have qpe_ix := @pe_ix
  have qPWpt := @PW.pt
  have qpw_or := @pw_or
  have qpw_or1 := @pw_or1
  have qpa2 := @pa2
  have qpe_op := @pe_op
  have qpe_tup := @pe_tup
  have qpa3 := @pa3
  generalize @L2.PE = QE, @L2.PT = QT, @L2.PW = QW, @L2.PA = QA, @L2.PS = QS, @L2.PSs = QSs, @L2.PG = QG, @L2.PGs = QGs, @L2.PI = QI, @L2.PO = QO, @L2.PIf = QIf at qpss7 qps_set qpe_bm qpv qpa1 qpe_str qps_if qpt_cmpR qpe_callB qpe_int qpss_one qps_ret qpe_non qpss_nil qpe_call qpe_ix qPWpt qpw_or qpw_or1 qpa2 qpe_op qpe_tup qpa3 ⊢
  refine ⟨_,
    (qpss7
      (qps_set (i := 1) sc_law_point.nd rfl (Or.inl rfl) (qpe_bm PySem.F.plainAttrs_str PySem.F.slot_str_split PySem.F.type_str_split mt_split (qpv 0) (qpa1 qpe_str ns_Constant)))
      (qps_if (qpt_cmpR op_ne (qpe_callB call_lenH rfl T.b_len bt_len (qpa1 (qpv 1) ns_Name)) qpe_int (nomark _)) (qpss_one (qps_ret qpe_non)) qpss_nil)
      (qps_set (i := 2) sc_law_point.nd rfl (Or.inl rfl) (qpe_call (ok_law_number T) (hr.mono (by decide)) rfl T.law_number.mg T.law_number.fn.kp T.law_number.bn .nil pass0 (qpa1 (qpe_ix ix_listH (qpv 1) qpe_int (fun _ _ => rfl)) ns_Subscript)))
      (qps_set (i := 3) sc_law_point.nd rfl (Or.inl rfl) (qpe_call (ok_law_number T) (hr.mono (by decide)) rfl T.law_number.mg T.law_number.fn.kp T.law_number.bn .nil pass0 (qpa1 (qpe_ix ix_listH (qpv 1) qpe_int (fun _ _ => rfl)) ns_Subscript)))
      (qps_if (qPWpt (qpw_or (qpt_cmpR op_isN (qpv 2) qpe_non (nomark _)) (qpw_or1 (qpt_cmpR op_isN (qpv 3) qpe_non (nomark _))))) (qpss_one (qps_ret qpe_non)) qpss_nil)
      (qps_set (i := 4) sc_law_point.nd rfl (Or.inl rfl) (qpe_call (ok_law_divisor T) (hr.mono (by decide)) rfl T.law_divisor.mg T.law_divisor.fn.kp T.law_divisor.bn .nil pass0 (qpa2 (qpe_call (ok_law_divisor T) (hr.mono (by decide)) rfl T.law_divisor.mg T.law_divisor.fn.kp T.law_divisor.bn .nil pass0 (qpa2 (qpe_callB call_abs rfl T.b_abs bt_abs (qpa1 (qpe_op op_mulB (qpe_ix ix_tupH (qpv 2) qpe_int (fun _ _ => rfl)) (qpe_ix ix_tupH (qpv 3) qpe_int (fun _ _ => rfl))) ns_BinOp)) ns_Call (qpe_callB call_abs rfl T.b_abs bt_abs (qpa1 (qpe_op op_mulB (qpe_ix ix_tupH (qpv 3) qpe_int (fun _ _ => rfl)) (qpe_ix ix_tupH (qpv 2) qpe_int (fun _ _ => rfl))) ns_BinOp)) ns_Call)) ns_Call (qpe_op op_mulB (qpe_ix ix_tupH (qpv 2) qpe_int (fun _ _ => rfl)) (qpe_ix ix_tupH (qpv 3) qpe_int (fun _ _ => rfl))) ns_BinOp)))
      (qps_ret (qpe_tup (qpa3 (qpe_op op_fdivB (qpe_op op_mulB (qpe_ix ix_tupH (qpv 2) qpe_int (fun _ _ => rfl)) (qpe_ix ix_tupH (qpv 3) qpe_int (fun _ _ => rfl))) (qpv 4)) ns_BinOp (qpe_op op_fdivB (qpe_op op_mulB (qpe_ix ix_tupH (qpv 3) qpe_int (fun _ _ => rfl)) (qpe_ix ix_tupH (qpv 2) qpe_int (fun _ _ => rfl))) (qpv 4)) ns_BinOp (qpe_op op_fdivB (qpe_op op_mulB (qpe_ix ix_tupH (qpv 2) qpe_int (fun _ _ => rfl)) (qpe_ix ix_tupH (qpv 3) qpe_int (fun _ _ => rfl))) (qpv 4)) ns_BinOp))))
    , ?_⟩
  clear  qpss7 qps_set qpe_bm qpv qpa1 qpe_str qps_if qpt_cmpR qpe_callB qpe_int qpss_one qps_ret qpe_non qpss_nil qpe_call qpe_ix qPWpt qpw_or qpw_or1 qpa2 qpe_op qpe_tup qpa3 QE QT QW QA QS QSs QG QGs QI QO QIf
  simp only [iStr, rSplit, rStarts, rIntT, rSlS, rMulS, rAll, rIxS, tyV_s, scal_ss, V.str.injEq, tSeq, tNext, tRet, tRetN, tIfS, tAsg, gName, tDrop, tVar, tC, tOp, tUn, rI, rI0, rU, rEq, rNe, tTest, tB, tNot, tAnd, tOr, tAndV, tOrV, tNotV, tIf, tCB, tCall, tNil, tCons, tTup, tLst, gTup, gCons, gNil, L2.start, rIsi, rIxT, rIxL, cx_K, tyN_non, tyN_bl, tyN_int, tyN_str, isi_ii, isi_ib, isi_it, isi_il, isi_bi, isi_bb, isi_tt, isi_ni, isi_si, isi_ti, isi_li, isi_di, isi_ll, scal_ii, scal_bb, sz0, sz1, sz2, sz3, sz4, List.map_cons, List.map_nil, List.length_cons, List.length_nil, List.replicate, List.cons_append, List.nil_append, List.append_nil, List.getElem?_cons_zero, List.getElem?_cons_succ, List.set_cons_zero, List.set_cons_succ, Option.some.injEq, V.int.injEq, V.bl.injEq, V.ref.injEq, V.ty.injEq, List.cons.injEq, and_true, true_and, exists_eq_left, exists_eq_left', exists_and_left, exists_and_right, exists_eq, exists_eq', and_assoc, Nat.reduceAdd, Nat.reduceSub, Bool.not_true, Bool.not_false, Bool.false_eq_true, if_true, if_false, reduceIte, Nat.zero_add, decide_true, decide_false, selC, comp_K, tYes, Option.join_some, rIxTH, rIxLH, rLenH, rIsiF, at0, at1, at2, at3, at4, at5, at6, at7, at8, HO.tup.injEq, HO.lst.injEq, reduceCtorEq, false_or, or_false, tyF_non, tyF_bl, tyF_int, tyF_str, exists_const, Int.reduceAdd, Int.reduceMul, Int.reduceSub, gSub, rSetL, tSl, tPart, tNoPart, rSlH, upd_same, upd_upd, rIntB, rListH, tBM, tBM0, rAppend, rClear, tPar, gTupH]
  have sl := split_len (x := x) (y := Str.ofString ",") (by rw [len_comma]; decide)
  have sm : ∀ p, p ∈ Txt.split x (Str.ofString ",") → p.length ≤ 1000 := fun p hp => Nat.le_trans (split_mem hp) hx
  refine ⟨by rw [len_comma]; rfl, hx, sz_of (by omega), fun D hD => ?_⟩
  unfold ptV at h
  generalize Txt.split x (Str.ofString ",") = L at *
  have g1 := same_new hD (HO.lst (L.map V.str))
  have d1 : upd H D (HO.lst (L.map V.str)) D = some (HO.lst (L.map V.str)) := upd_same
  generalize upd H D (HO.lst (L.map V.str)) = H1 at *
  by_cases two : L.length = 2
  · match L, two with
    | [a, b], _ =>
      simp only at h
      refine iteNS rfl ⟨_, at0, a, rfl, sm a (List.mem_cons_self ..), ?_⟩
      cases e1 : numV a with
      | none =>
        rw [e1] at h
        simp only at h
        rcases h with ⟨_, hE⟩ | ⟨_, z, _⟩
        · refine .inl ⟨rfl, fun H2 g2 => ⟨_, g2 _ _ d1, _, at1, b, rfl, sm b (by simp), ?_⟩⟩
          cases e2 : numV b with
          | none => exact .inl ⟨rfl, fun H3 g3' => iteT (hE H3 (g1.trans (g2.trans g3')))⟩
          | some rs => exact .inr ⟨rs.1, rs.2, rfl, fun p H3 g3' _ => iteT (hE H3 (g1.trans (g2.trans g3')))⟩
        · cases z
      | some pq =>
        obtain ⟨t1, u1⟩ := pq
        refine .inr ⟨_, _, rfl, fun px H2 g2 hpx => ?_⟩
        have d2 := g2 _ _ d1
        refine ⟨_, d2, _, at1, b, rfl, sm b (by simp), ?_⟩
        cases e2 : numV b with
        | none =>
          rw [e1, e2] at h
          simp only at h
          rcases h with ⟨_, hE⟩ | ⟨_, z, _⟩
          · exact .inl ⟨rfl, fun H3 g3' => iteF (iteT (hE H3 (g1.trans (g2.trans g3'))))⟩
          · cases z
        | some rs =>
          obtain ⟨t2, u2⟩ := rs
          rw [e1, e2] at h
          simp only at h
          refine .inr ⟨_, _, rfl, fun py H3 g3' hpy => ?_⟩
          obtain ⟨l1, l2, l3⟩ := num_facts e1
          obtain ⟨m1, m2, m3⟩ := num_facts e2
          have hpx3 := g3' _ _ hpx
          rcases h with ⟨z, _⟩ | ⟨_, z, hq⟩
          · cases z
          · cases z
            simp only [sp_ndiv, iStr, rSplit, rStarts, rIntT, rSlS, rMulS, rAll, rIxS, tyV_s, scal_ss, V.str.injEq, tSeq, tNext, tRet, tRetN, tIfS, tAsg, gName, tDrop, tVar, tC, tOp, tUn, rI, rI0, rU, rEq, rNe, tTest, tB, tNot, tAnd, tOr, tAndV, tOrV, tNotV, tIf, tCB, tCall, tNil, tCons, tTup, tLst, gTup, gCons, gNil, L2.start, rIsi, rIxT, rIxL, cx_K, tyN_non, tyN_bl, tyN_int, tyN_str, isi_ii, isi_ib, isi_it, isi_il, isi_bi, isi_bb, isi_tt, isi_ni, isi_si, isi_ti, isi_li, isi_di, isi_ll, scal_ii, scal_bb, sz0, sz1, sz2, sz3, sz4, List.map_cons, List.map_nil, List.length_cons, List.length_nil, List.replicate, List.cons_append, List.nil_append, List.append_nil, List.getElem?_cons_zero, List.getElem?_cons_succ, List.set_cons_zero, List.set_cons_succ, Option.some.injEq, V.int.injEq, V.bl.injEq, V.ref.injEq, V.ty.injEq, List.cons.injEq, and_true, true_and, exists_eq_left, exists_eq_left', exists_and_left, exists_and_right, exists_eq, exists_eq', and_assoc, Nat.reduceAdd, Nat.reduceSub, Bool.not_true, Bool.not_false, Bool.false_eq_true, if_true, if_false, reduceIte, Nat.zero_add, decide_true, decide_false, selC, comp_K, tYes, Option.join_some, rIxTH, rIxLH, rLenH, rIsiF, at0, at1, at2, at3, at4, at5, at6, at7, at8, HO.tup.injEq, HO.lst.injEq, reduceCtorEq, false_or, or_false, tyF_non, tyF_bl, tyF_int, tyF_str, exists_const, Int.reduceAdd, Int.reduceMul, Int.reduceSub, gSub, rSetL, tSl, tPart, tNoPart, rSlH, upd_same, upd_upd, rIntB, rListH, tBM, tBM0, rAppend, rClear, tPar, gTupH, hpx3, hpy]
            have nz := Int.mul_pos l3 m3
            rw [G_abs]
            have nn := g3_ne (x := t1 * u2) (y := t2 * u1) nz
            have lt' := g3_lt (n := 8000) (x := t1 * u2) (y := t2 * u1) nz (lt_mono (mul_lt l2 m2) (by decide))
            have ef : G (G (t1 * u2) (t2 * u1)) (u1 * u2) = fac3 (t1 * u2) (t2 * u1) (u1 * u2) := by
              unfold fac3
              rw [if_neg (by omega), G3, G3, g3_turn (t1 * u2)]
            refine ⟨cbig l1 m2, cbig m1 l2, by split <;> omega, by split <;> omega, cbig l2 m2, G_nonneg _ _, by omega, cbig l1 m2, cdivb nn lt', cbig m1 l2, cdivb nn lt', cbig l2 m2, cdivb nn lt', fun p hp => ?_⟩
            rw [ef]
            exact hq p _ (g1.trans (g2.trans (g3'.trans (same_new hp _)))) upd_same
  · have hE : Q .non H1 := by
      match L, two with
      | [], _ => rcases h with ⟨_, hE⟩ | ⟨_, z, _⟩; exact hE H1 g1; cases z
      | [a], _ => rcases h with ⟨_, hE⟩ | ⟨_, z, _⟩; exact hE H1 g1; cases z
      | a :: b :: c :: r, _ => rcases h with ⟨_, hE⟩ | ⟨_, z, _⟩; exact hE H1 g1; cases z
    refine ite2 (fun _ => hE) (fun c => absurd ?_ c)
    rw [List.length_map, decide_eq_false (by omega)]
    rfl
theorem ok_law_bound (T : Txt K mg ad fd ca) : FnOk P w K mg base CX0 1 (ad 15) (fd 15) ["_law_cell"] sp_bd := by
  refine T.law_bound.fn.ok sc_law_bound (fun vs H Q E h => ?_) (fun cdv A outer s H vs Q E hr h => ?_)
  · obtain ⟨x, rfl, _⟩ := h
    rfl
  obtain ⟨c, rfl, h⟩ := h
  have qpss_one := @pss_one
  have qps_ret := @ps_ret
  have qpe_ifExp := @pe_ifExp
  have qpt_cmpR := @pt_cmpR
  have qpe_op := @pe_op
  have qpv := @pv
  have qpe_int := @pe_int
  generalize @L2.PE = QE, @L2.PT = QT, @L2.PW = QW, @L2.PA = QA, @L2.PS = QS, @L2.PSs = QSs, @L2.PG = QG, @L2.PGs = QGs, @L2.PI = QI, @L2.PO = QO, @L2.PIf = QIf at qpss_one qps_ret qpe_ifExp qpt_cmpR qpe_op qpv qpe_int ⊢
  refine ⟨_,
    (qpss_one (qps_ret (qpe_ifExp (qpt_cmpR op_eq (qpe_op op_mod (qpv 0) qpe_int) qpe_int (nomark _)) (qpe_op op_sub (qpe_op op_pow qpe_int qpe_int) qpe_int) (qpe_op op_pow qpe_int qpe_int))))
    , ?_⟩
  clear  qpss_one qps_ret qpe_ifExp qpt_cmpR qpe_op qpv qpe_int QE QT QW QA QS QSs QG QGs QI QO QIf
  simp only [iStr, rSplit, rStarts, rIntT, rSlS, rMulS, rAll, rIxS, tyV_s, scal_ss, V.str.injEq, tSeq, tNext, tRet, tRetN, tIfS, tAsg, gName, tDrop, tVar, tC, tOp, tUn, rI, rI0, rU, rEq, rNe, tTest, tB, tNot, tAnd, tOr, tAndV, tOrV, tNotV, tIf, tCB, tCall, tNil, tCons, tTup, tLst, gTup, gCons, gNil, L2.start, rIsi, rIxT, rIxL, cx_K, tyN_non, tyN_bl, tyN_int, tyN_str, isi_ii, isi_ib, isi_it, isi_il, isi_bi, isi_bb, isi_tt, isi_ni, isi_si, isi_ti, isi_li, isi_di, isi_ll, scal_ii, scal_bb, sz0, sz1, sz2, sz3, sz4, List.map_cons, List.map_nil, List.length_cons, List.length_nil, List.replicate, List.cons_append, List.nil_append, List.append_nil, List.getElem?_cons_zero, List.getElem?_cons_succ, List.set_cons_zero, List.set_cons_succ, Option.some.injEq, V.int.injEq, V.bl.injEq, V.ref.injEq, V.ty.injEq, List.cons.injEq, and_true, true_and, exists_eq_left, exists_eq_left', exists_and_left, exists_and_right, exists_eq, exists_eq', and_assoc, Nat.reduceAdd, Nat.reduceSub, Bool.not_true, Bool.not_false, Bool.false_eq_true, if_true, if_false, reduceIte, Nat.zero_add, decide_true, decide_false, selC, comp_K, tYes, Option.join_some, rIxTH, rIxLH, rLenH, rIsiF, at0, at1, at2, at3, at4, at5, at6, at7, at8, HO.tup.injEq, HO.lst.injEq, reduceCtorEq, false_or, or_false, tyF_non, tyF_bl, tyF_int, tyF_str, exists_const, Int.reduceAdd, Int.reduceMul, Int.reduceSub, gSub, rSetL, tSl, tPart, tNoPart, rSlH, upd_same, upd_upd, rIntB, rListH, tBM, tBM0, rAppend, rClear, tPar, gTupH]
  have p60 : CPow 10 60 := ⟨by decide, by decide, by decide⟩
  have p59 : CPow 10 59 := ⟨by decide, by decide, by decide⟩
  exact ⟨by decide, ite2 (fun _ => ⟨p60, h _ (by decide +kernel) (by decide +kernel)⟩) (fun _ => ⟨p59, h _ (by decide +kernel) (by decide +kernel)⟩)⟩
theorem ok_law_size (T : Txt K mg ad fd ca) : FnOk P w K mg base CX0 1 (ad 16) (fd 16) ["_law_cell"] sp_size := by
  refine T.law_size.fn.ok sc_law_size (fun vs H Q E h => ?_) (fun cdv A outer s H vs Q E hr h => ?_)
  · obtain ⟨x, rfl, _⟩ := h
    rfl
  obtain ⟨c, rfl, h⟩ := h
  have qpss_one := @pss_one
  have qps_ret := @ps_ret
  have qpe_ix := @pe_ix
  have qpe_lst := @pe_lst
  have qpa6 := @pa6
  have qpe_int := @pe_int
  have qpe_op := @pe_op
  have qpv := @pv
  generalize @L2.PE = QE, @L2.PT = QT, @L2.PW = QW, @L2.PA = QA, @L2.PS = QS, @L2.PSs = QSs, @L2.PG = QG, @L2.PGs = QGs, @L2.PI = QI, @L2.PO = QO, @L2.PIf = QIf at qpss_one qps_ret qpe_ix qpe_lst qpa6 qpe_int qpe_op qpv ⊢
  refine ⟨_,
    (qpss_one (qps_ret (qpe_ix ix_listH (qpe_lst (qpa6 qpe_int ns_Constant qpe_int ns_Constant qpe_int ns_Constant (qpe_op op_pow qpe_int qpe_int) ns_BinOp (qpe_op op_pow qpe_int qpe_int) ns_BinOp (qpe_op op_pow qpe_int qpe_int) ns_BinOp)) (qpe_op op_mod (qpv 0) qpe_int) (fun _ _ => rfl))))
    , ?_⟩
  clear  qpss_one qps_ret qpe_ix qpe_lst qpa6 qpe_int qpe_op qpv QE QT QW QA QS QSs QG QGs QI QO QIf
  simp only [iStr, rSplit, rStarts, rIntT, rSlS, rMulS, rAll, rIxS, tyV_s, scal_ss, V.str.injEq, tSeq, tNext, tRet, tRetN, tIfS, tAsg, gName, tDrop, tVar, tC, tOp, tUn, rI, rI0, rU, rEq, rNe, tTest, tB, tNot, tAnd, tOr, tAndV, tOrV, tNotV, tIf, tCB, tCall, tNil, tCons, tTup, tLst, gTup, gCons, gNil, L2.start, rIsi, rIxT, rIxL, cx_K, tyN_non, tyN_bl, tyN_int, tyN_str, isi_ii, isi_ib, isi_it, isi_il, isi_bi, isi_bb, isi_tt, isi_ni, isi_si, isi_ti, isi_li, isi_di, isi_ll, scal_ii, scal_bb, sz0, sz1, sz2, sz3, sz4, List.map_cons, List.map_nil, List.length_cons, List.length_nil, List.replicate, List.cons_append, List.nil_append, List.append_nil, List.getElem?_cons_zero, List.getElem?_cons_succ, List.set_cons_zero, List.set_cons_succ, Option.some.injEq, V.int.injEq, V.bl.injEq, V.ref.injEq, V.ty.injEq, List.cons.injEq, and_true, true_and, exists_eq_left, exists_eq_left', exists_and_left, exists_and_right, exists_eq, exists_eq', and_assoc, Nat.reduceAdd, Nat.reduceSub, Bool.not_true, Bool.not_false, Bool.false_eq_true, if_true, if_false, reduceIte, Nat.zero_add, decide_true, decide_false, selC, comp_K, tYes, Option.join_some, rIxTH, rIxLH, rLenH, rIsiF, at0, at1, at2, at3, at4, at5, at6, at7, at8, HO.tup.injEq, HO.lst.injEq, reduceCtorEq, false_or, or_false, tyF_non, tyF_bl, tyF_int, tyF_str, exists_const, Int.reduceAdd, Int.reduceMul, Int.reduceSub, gSub, rSetL, tSl, tPart, tNoPart, rSlH, upd_same, upd_upd, rIntB, rListH, tBM, tBM0, rAppend, rClear, tPar, gTupH]
  have p60 : CPow 10 60 := ⟨by decide, by decide, by decide⟩
  have p20 : CPow 10 20 := ⟨by decide, by decide, by decide⟩
  have p9 : CPow 10 9 := ⟨by decide, by decide, by decide⟩
  refine ⟨p9, p20, p60, sz_of (by decide), fun p hp => ⟨by decide, ?_⟩⟩
  obtain ⟨n, e, h1, h2⟩ : ∃ n : Int, atI [V.int 10, V.int 100, V.int 1000, V.int (10 ^ Int.toNat 9), V.int (10 ^ Int.toNat 20), V.int (10 ^ Int.toNat 60)] (c % 6) = some (.int n) ∧ 10 ≤ n ∧ n.natAbs < 2 ^ 200 := by
    rcases (by omega : c % 6 = 0 ∨ c % 6 = 1 ∨ c % 6 = 2 ∨ c % 6 = 3 ∨ c % 6 = 4 ∨ c % 6 = 5) with e | e | e | e | e | e
    · rw [e]; exact ⟨_, at0, by decide +kernel, by decide +kernel⟩
    · rw [e]; exact ⟨_, at1, by decide +kernel, by decide +kernel⟩
    · rw [e]; exact ⟨_, at2, by decide +kernel, by decide +kernel⟩
    · rw [e]; exact ⟨_, at3, by decide +kernel, by decide +kernel⟩
    · rw [e]; exact ⟨_, at4, by decide +kernel, by decide +kernel⟩
    · rw [e]; exact ⟨_, at5, by decide +kernel, by decide +kernel⟩
  exact ⟨_, e, h _ _ h1 h2 (same_new hp _)⟩
theorem ok_law_number_text (T : Txt K mg ad fd ca) : FnOk P w K mg base CX0 2 (ad 17) (fd 17) ["_law_cell"] sp_ntext := by
  refine T.law_number_text.fn.ok sc_law_number_text (fun vs H Q E h => ?_) (fun cdv A outer s H vs Q E hr h => ?_)
  · obtain ⟨x, rfl, _⟩ := h
    rfl
  obtain ⟨c, rfl, hc, k⟩ := h
  obtain ⟨t4, h4, k4⟩ : ∃ tl, PSs (cxOf CX0 P w K mg base ["_law_cell", "_law_top", "_law_sign", "_law_bottom"] "_law_number_text" (defScope s_law_number_text) (ad 17) cdv A outer s H E).nox ((defBody s_law_number_text).drop 4) tl ∧ ∀ (t : Int) (x : Str) (H1 : Hp), 0 ≤ t → t.natAbs < 2 ^ 200 → x.length ≤ 1 → Same H H1 →
      tl { nx := fun _ H' => Q .non H', rt := Q } [some (.int c), some (.int t), some (.str x), none] H1 := by
    have qpss4 := @pss4
    have qps_if := @ps_if
    have qPWpt := @PW.pt
    have qpw_or := @pw_or
    have qpt_cmpR := @pt_cmpR
    have qpe_op := @pe_op
    have qpv := @pv
    have qpe_int := @pe_int
    have qpw_or1 := @pw_or1
    have qpss_one := @pss_one
    have qps_ret := @ps_ret
    have qpe_callTy := @pe_callTy
    have qpa1 := @pa1
    have qpss_nil := @pss_nil
    have qps_set := @ps_set
    have qpe_call := @pe_call
    have qps_while := @ps_while
    have qpa2 := @pa2
    have qpe_str := @pe_str
    generalize @L2.PE = QE, @L2.PT = QT, @L2.PW = QW, @L2.PA = QA, @L2.PS = QS, @L2.PSs = QSs, @L2.PG = QG, @L2.PGs = QGs, @L2.PI = QI, @L2.PO = QO, @L2.PIf = QIf at qpss4 qps_if qPWpt qpw_or qpt_cmpR qpe_op qpv qpe_int qpw_or1 qpss_one qps_ret qpe_callTy qpa1 qpss_nil qps_set qpe_call qps_while qpa2 qpe_str ⊢
    refine ⟨_,
    (qpss4
      (qps_if (qPWpt (qpw_or (qpt_cmpR op_eq (qpe_op op_mod (qpe_op op_fdiv (qpv 0) qpe_int) qpe_int) qpe_int (nomark _)) (qpw_or1 (qpt_cmpR op_eq (qpv 1) qpe_int (nomark _))))) (qpss_one (qps_ret (qpe_op op_add_str (qpv 2) (qpe_callTy call_str_int rfl T.b_str bt_str (qpa1 (qpv 1) ns_Name))))) qpss_nil)
      (qps_set (i := 3) sc_law_number_text.nd rfl (Or.inl rfl) (qpe_op op_add qpe_int (qpe_op op_modN (qpe_op op_mulB (qpe_op op_mod (qpe_op op_mul (qpv 0) qpe_int) qpe_int) (qpe_op op_add (qpe_op op_pow qpe_int qpe_int) qpe_int)) (qpe_op op_sub (qpe_call (ok_law_size T) (hr.mono (by decide)) rfl T.law_size.mg T.law_size.fn.kp T.law_size.bn .nil pass0 (qpa1 (qpe_op op_fdiv (qpv 0) qpe_int) ns_BinOp)) qpe_int))))
      (qps_while PassesOwn.never (qpt_cmpR op_ne (qpe_call (ok_law_divisor T) (hr.mono (by decide)) rfl T.law_divisor.mg T.law_divisor.fn.kp T.law_divisor.bn .nil pass0 (qpa2 (qpv 1) ns_Name (qpv 3) ns_Name)) qpe_int (nomark _)) (qpss_one (qps_set (i := 3) sc_law_number_text.nd rfl (Or.inl rfl) (qpe_op op_add (qpv 3) qpe_int))))
      (qps_ret (qpe_op op_add_str (qpe_op op_add_str (qpe_op op_add_str (qpv 2) (qpe_callTy call_str_int rfl T.b_str bt_str (qpa1 (qpv 1) ns_Name))) qpe_str) (qpe_callTy call_str_int rfl T.b_str bt_str (qpa1 (qpv 3) ns_Name)))))
      , fun t x H1 ht lt hx g1 => ?_⟩
    clear  qpss4 qps_if qPWpt qpw_or qpt_cmpR qpe_op qpv qpe_int qpw_or1 qpss_one qps_ret qpe_callTy qpa1 qpss_nil qps_set qpe_call qps_while qpa2 qpe_str QE QT QW QA QS QSs QG QGs QI QO QIf
    simp only [sp_size, iStr, rSplit, rStarts, rIntT, rSlS, rMulS, rAll, rIxS, tyV_s, scal_ss, V.str.injEq, tSeq, tNext, tRet, tRetN, tIfS, tAsg, gName, tDrop, tVar, tC, tOp, tUn, rI, rI0, rU, rEq, rNe, tTest, tB, tNot, tAnd, tOr, tAndV, tOrV, tNotV, tIf, tCB, tCall, tNil, tCons, tTup, tLst, gTup, gCons, gNil, L2.start, rIsi, rIxT, rIxL, cx_K, tyN_non, tyN_bl, tyN_int, tyN_str, isi_ii, isi_ib, isi_it, isi_il, isi_bi, isi_bb, isi_tt, isi_ni, isi_si, isi_ti, isi_li, isi_di, isi_ll, scal_ii, scal_bb, sz0, sz1, sz2, sz3, sz4, List.map_cons, List.map_nil, List.length_cons, List.length_nil, List.replicate, List.cons_append, List.nil_append, List.append_nil, List.getElem?_cons_zero, List.getElem?_cons_succ, List.set_cons_zero, List.set_cons_succ, Option.some.injEq, V.int.injEq, V.bl.injEq, V.ref.injEq, V.ty.injEq, List.cons.injEq, and_true, true_and, exists_eq_left, exists_eq_left', exists_and_left, exists_and_right, exists_eq, exists_eq', and_assoc, Nat.reduceAdd, Nat.reduceSub, Bool.not_true, Bool.not_false, Bool.false_eq_true, if_true, if_false, reduceIte, Nat.zero_add, decide_true, decide_false, selC, comp_K, tYes, Option.join_some, rIxTH, rIxLH, rLenH, rIsiF, at0, at1, at2, at3, at4, at5, at6, at7, at8, HO.tup.injEq, HO.lst.injEq, reduceCtorEq, false_or, or_false, tyF_non, tyF_bl, tyF_int, tyF_str, exists_const, Int.reduceAdd, Int.reduceMul, Int.reduceSub, gSub, rSetL, tSl, tPart, tNoPart, rSlH, upd_same, upd_upd, rIntB, rListH, tBM, tBM0, rAppend, rClear, tPar, gTupH]
    have l1 := len_int2 lt
    have one : ∀ H', Same H H' → x.length + (Str.ofString (toString t)).length ≤ sizeLine ∧ Q (.str (x ++ Str.ofString (toString t))) H' := fun H' g => ⟨sz_of (by omega), k _ _ (by rw [Str.length_append]; omega) g⟩
    refine ⟨⟨by decide, by decide⟩, by decide, ite2 (fun _ => ⟨log_of (lt5 lt), one _ g1⟩) (fun _ => ite2 (fun _ => ⟨log_of (lt5 lt), one _ g1⟩) (fun c2 => ⟨.inr ⟨by decide, by decide⟩, by decide, ⟨by decide, by decide, by decide⟩, ?_, ⟨by decide, by decide⟩, fun n H2 hn ln g2 => ⟨by omega, ?_⟩⟩))⟩
    · exact cbig (m := 31) (n := 200) (by omega) (by decide +kernel)
    have t0 : 0 < t := by
      have : ¬ t = 0 := fun z => c2 (decide_eq_true z)
      omega
    obtain ⟨b0, eb, hb, lb⟩ : ∃ b0 : Int, 2 + (c * 48271 % 2147483647 * (10 ^ Int.toNat 51 + 9)).fmod (n - 8) = b0 ∧ 2 ≤ b0 ∧ b0.natAbs < 2 ^ 201 := by
      refine ⟨_, rfl, ?_, ?_⟩
      · have := Int.fmod_nonneg_of_pos (c * 48271 % 2147483647 * (10 ^ Int.toNat 51 + 9)) (b := n - 8) (by omega)
        omega
      · have h1 := Int.fmod_nonneg_of_pos (c * 48271 % 2147483647 * (10 ^ Int.toNat 51 + 9)) (b := n - 8) (by omega)
        have h2 := Int.fmod_lt_of_pos (c * 48271 % 2147483647 * (10 ^ Int.toNat 51 + 9)) (b := n - 8) (by omega)
        generalize (c * 48271 % 2147483647 * (10 ^ Int.toNat 51 + 9)).fmod (n - 8) = z at *
        have e : (2 : Nat) ^ 201 = 2 ^ 200 + 2 ^ 200 := by decide
        omega
    rw [eb]
    clear eb
    have fit : ∀ b : Int, 0 ≤ b → b ≤ t * b0 + 1 → b.natAbs < 2 ^ 500 := by
      intro b h1 h2
      have h3 : (t * b0).natAbs < 2 ^ 401 := by
        have := mul_lt lt lb
        exact this
      have e : (2 : Nat) ^ 401 + 2 < 2 ^ 500 := by decide
      omega
    refine while_by (fun σ H' => H' = H2 ∧ ∃ b : Int, σ = [some (.int c), some (.int t), some (.str x), some (.int b)] ∧ 2 ≤ b ∧ b ≤ t * b0 + 1) (fun σ _ => (t * b0 + 1 - getI σ 3).toNat) ⟨rfl, b0, rfl, hb, ?_⟩ ?_
      (fun σ H Q Q' m h => by obtain ⟨v, e, v2, e2, a, b, e3, ha, hb, s, k, e4, q⟩ := h; exact ⟨v, e, v2, e2, a, b, e3, ha, hb, s, k, e4, m _ _ q⟩)
    · have := Int.mul_le_mul_of_nonneg_right (show 1 ≤ t by omega) (show 0 ≤ b0 by omega)
      omega
    rintro σ H' ⟨rfl, b, rfl, h2b, hbm⟩
    simp only [sp_ndiv, iStr, rSplit, rStarts, rIntT, rSlS, rMulS, rAll, rIxS, tyV_s, scal_ss, V.str.injEq, tSeq, tNext, tRet, tRetN, tIfS, tAsg, gName, tDrop, tVar, tC, tOp, tUn, rI, rI0, rU, rEq, rNe, tTest, tB, tNot, tAnd, tOr, tAndV, tOrV, tNotV, tIf, tCB, tCall, tNil, tCons, tTup, tLst, gTup, gCons, gNil, L2.start, rIsi, rIxT, rIxL, cx_K, tyN_non, tyN_bl, tyN_int, tyN_str, isi_ii, isi_ib, isi_it, isi_il, isi_bi, isi_bb, isi_tt, isi_ni, isi_si, isi_ti, isi_li, isi_di, isi_ll, scal_ii, scal_bb, sz0, sz1, sz2, sz3, sz4, List.map_cons, List.map_nil, List.length_cons, List.length_nil, List.replicate, List.cons_append, List.nil_append, List.append_nil, List.getElem?_cons_zero, List.getElem?_cons_succ, List.set_cons_zero, List.set_cons_succ, Option.some.injEq, V.int.injEq, V.bl.injEq, V.ref.injEq, V.ty.injEq, List.cons.injEq, and_true, true_and, exists_eq_left, exists_eq_left', exists_and_left, exists_and_right, exists_eq, exists_eq', and_assoc, Nat.reduceAdd, Nat.reduceSub, Bool.not_true, Bool.not_false, Bool.false_eq_true, if_true, if_false, reduceIte, Nat.zero_add, decide_true, decide_false, selC, comp_K, tYes, Option.join_some, rIxTH, rIxLH, rLenH, rIsiF, at0, at1, at2, at3, at4, at5, at6, at7, at8, HO.tup.injEq, HO.lst.injEq, reduceCtorEq, false_or, or_false, tyF_non, tyF_bl, tyF_int, tyF_str, exists_const, Int.reduceAdd, Int.reduceMul, Int.reduceSub, gSub, rSetL, tSl, tPart, tNoPart, rSlH, upd_same, upd_upd, rIntB, rListH, tBM, tBM0, rAppend, rClear, tPar, gTupH]
    have lb := len_int (fit b (by omega) hbm)
    refine ⟨by omega, by omega, ite2 (fun c3 => ?_) (fun c3 => ?_)⟩
    · have ne : ¬ G t b = 1 := by simpa using c3
      have nb : b ≠ t * b0 + 1 := by
        rintro rfl
        apply ne
        have d1 := G_dvd_left t (t * b0 + 1)
        have d2 := G_dvd_right t (t * b0 + 1)
        have d3 : G t (t * b0 + 1) ∣ 1 := (Int.dvd_add_right (Int.dvd_mul_of_dvd_left d1)).mp d2
        exact Int.eq_one_of_dvd_one (G_nonneg _ _) d3
      exact ⟨by omega, by omega, by show (t * b0 + 1 - (b + 1)).toNat < (t * b0 + 1 - b).toNat; omega⟩
    · exact ⟨log_of (lt5 lt), sz_of (by omega), sz_of (by rw [Str.length_append, len_sl]; omega), log_of (fit b (by omega) hbm), sz_of (by rw [Str.length_append, Str.length_append, len_sl]; omega), k _ _ (by rw [Str.length_append, Str.length_append, Str.length_append, len_sl]; omega) (g1.trans g2)⟩
  obtain ⟨t2, h2, k2⟩ : ∃ tl, PSs (cxOf CX0 P w K mg base ["_law_cell", "_law_top", "_law_sign", "_law_bottom"] "_law_number_text" (defScope s_law_number_text) (ad 17) cdv A outer s H E).nox ((defBody s_law_number_text).drop 2) tl ∧ ∀ (t : Int) (H1 : Hp), 0 ≤ t → t.natAbs < 2 ^ 200 → Same H H1 →
      tl { nx := fun _ H' => Q .non H', rt := Q } [some (.int c), some (.int t), none, none] H1 := by
    have qpss_cons := @pss_cons
    have qps_set := @ps_set
    have qpe_ix := @pe_ix
    have qpe_lst := @pe_lst
    have qpa2 := @pa2
    have qpe_str := @pe_str
    have qpe_op := @pe_op
    have qpv := @pv
    have qpe_int := @pe_int
    have qps_if := @ps_if
    have qpt_cmpR := @pt_cmpR
    have qpss_one := @pss_one
    have qpss_nil := @pss_nil
    generalize @L2.PE = QE, @L2.PT = QT, @L2.PW = QW, @L2.PA = QA, @L2.PS = QS, @L2.PSs = QSs, @L2.PG = QG, @L2.PGs = QGs, @L2.PI = QI, @L2.PO = QO, @L2.PIf = QIf at qpss_cons qps_set qpe_ix qpe_lst qpa2 qpe_str qpe_op qpv qpe_int qps_if qpt_cmpR qpss_one qpss_nil h4 ⊢
    refine ⟨_,
    (qpss_cons (qps_set (i := 2) sc_law_number_text.nd rfl (Or.inl rfl) (qpe_ix ix_listH (qpe_lst (qpa2 qpe_str ns_Constant qpe_str ns_Constant)) (qpe_op op_mod (qpv 0) qpe_int) (fun _ _ => rfl)))
      (qpss_cons (qps_if (qpt_cmpR op_eq (qpv 1) qpe_int (nomark _)) (qpss_one (qps_set (i := 2) sc_law_number_text.nd rfl (Or.inl rfl) qpe_str)) qpss_nil)
      h4))
      , fun t H1 ht lt g1 => ?_⟩
    clear h4 qpss_cons qps_set qpe_ix qpe_lst qpa2 qpe_str qpe_op qpv qpe_int qps_if qpt_cmpR qpss_one qpss_nil QE QT QW QA QS QSs QG QGs QI QO QIf
    simp only [iStr, rSplit, rStarts, rIntT, rSlS, rMulS, rAll, rIxS, tyV_s, scal_ss, V.str.injEq, tSeq, tNext, tRet, tRetN, tIfS, tAsg, gName, tDrop, tVar, tC, tOp, tUn, rI, rI0, rU, rEq, rNe, tTest, tB, tNot, tAnd, tOr, tAndV, tOrV, tNotV, tIf, tCB, tCall, tNil, tCons, tTup, tLst, gTup, gCons, gNil, L2.start, rIsi, rIxT, rIxL, cx_K, tyN_non, tyN_bl, tyN_int, tyN_str, isi_ii, isi_ib, isi_it, isi_il, isi_bi, isi_bb, isi_tt, isi_ni, isi_si, isi_ti, isi_li, isi_di, isi_ll, scal_ii, scal_bb, sz0, sz1, sz2, sz3, sz4, List.map_cons, List.map_nil, List.length_cons, List.length_nil, List.replicate, List.cons_append, List.nil_append, List.append_nil, List.getElem?_cons_zero, List.getElem?_cons_succ, List.set_cons_zero, List.set_cons_succ, Option.some.injEq, V.int.injEq, V.bl.injEq, V.ref.injEq, V.ty.injEq, List.cons.injEq, and_true, true_and, exists_eq_left, exists_eq_left', exists_and_left, exists_and_right, exists_eq, exists_eq', and_assoc, Nat.reduceAdd, Nat.reduceSub, Bool.not_true, Bool.not_false, Bool.false_eq_true, if_true, if_false, reduceIte, Nat.zero_add, decide_true, decide_false, selC, comp_K, tYes, Option.join_some, rIxTH, rIxLH, rLenH, rIsiF, at0, at1, at2, at3, at4, at5, at6, at7, at8, HO.tup.injEq, HO.lst.injEq, reduceCtorEq, false_or, or_false, tyF_non, tyF_bl, tyF_int, tyF_str, exists_const, Int.reduceAdd, Int.reduceMul, Int.reduceSub, gSub, rSetL, tSl, tPart, tNoPart, rSlH, upd_same, upd_upd, rIntB, rListH, tBM, tBM0, rAppend, rClear, tPar, gTupH]
    have z0 : (Str.ofString "").length ≤ 1 := by decide +kernel
    have z1 : (Str.ofString "-").length ≤ 1 := by decide +kernel
    intro p hp
    have g2 := g1.trans (same_new hp (HO.lst [V.str (Str.ofString ""), V.str (Str.ofString "-")]))
    refine ⟨by decide, ?_⟩
    rcases (by omega : c % 2 = 0 ∨ c % 2 = 1) with e | e
    · rw [e]
      exact ⟨_, at0, ite2 (fun _ => k4 _ _ _ ht lt z0 g2) (fun _ => k4 _ _ _ ht lt z0 g2)⟩
    · rw [e]
      exact ⟨_, at1, ite2 (fun _ => k4 _ _ _ ht lt z0 g2) (fun _ => k4 _ _ _ ht lt z1 g2)⟩
  have qpss_cons := @pss_cons
  have qps_set := @ps_set
  have qpe_op := @pe_op
  have qpv := @pv
  have qpe_int := @pe_int
  have qpe_call := @pe_call
  have qpa1 := @pa1
  have qps_if := @ps_if
  have qpt_cmpR := @pt_cmpR
  have qpss_one := @pss_one
  have qpss_nil := @pss_nil
  generalize @L2.PE = QE, @L2.PT = QT, @L2.PW = QW, @L2.PA = QA, @L2.PS = QS, @L2.PSs = QSs, @L2.PG = QG, @L2.PGs = QGs, @L2.PI = QI, @L2.PO = QO, @L2.PIf = QIf at qpss_cons qps_set qpe_op qpv qpe_int qpe_call qpa1 qps_if qpt_cmpR qpss_one qpss_nil h2 ⊢
  refine ⟨_,
    (qpss_cons (qps_set (i := 1) sc_law_number_text.nd rfl (Or.inl rfl) (qpe_op op_modN (qpe_op op_fdiv (qpv 0) qpe_int) (qpe_call (ok_law_size T) (hr.mono (by decide)) rfl T.law_size.mg T.law_size.fn.kp T.law_size.bn .nil pass0 (qpa1 (qpe_op op_fdiv (qpv 0) qpe_int) ns_BinOp))))
      (qpss_cons (qps_if (qpt_cmpR op_eq (qpe_op op_mod (qpe_op op_fdiv (qpv 0) qpe_int) qpe_int) qpe_int (nomark _)) (qpss_one (qps_set (i := 1) sc_law_number_text.nd rfl (Or.inl rfl) (qpe_call (ok_law_bound T) (hr.mono (by decide)) rfl T.law_bound.mg T.law_bound.fn.kp T.law_bound.bn .nil pass0 (qpa1 (qpe_op op_fdiv (qpv 0) qpe_int) ns_BinOp)))) qpss_nil)
      h2))
    , ?_⟩
  clear h2 qpss_cons qps_set qpe_op qpv qpe_int qpe_call qpa1 qps_if qpt_cmpR qpss_one qpss_nil QE QT QW QA QS QSs QG QGs QI QO QIf
  simp only [sp_size, sp_bd, iStr, rSplit, rStarts, rIntT, rSlS, rMulS, rAll, rIxS, tyV_s, scal_ss, V.str.injEq, tSeq, tNext, tRet, tRetN, tIfS, tAsg, gName, tDrop, tVar, tC, tOp, tUn, rI, rI0, rU, rEq, rNe, tTest, tB, tNot, tAnd, tOr, tAndV, tOrV, tNotV, tIf, tCB, tCall, tNil, tCons, tTup, tLst, gTup, gCons, gNil, L2.start, rIsi, rIxT, rIxL, cx_K, tyN_non, tyN_bl, tyN_int, tyN_str, isi_ii, isi_ib, isi_it, isi_il, isi_bi, isi_bb, isi_tt, isi_ni, isi_si, isi_ti, isi_li, isi_di, isi_ll, scal_ii, scal_bb, sz0, sz1, sz2, sz3, sz4, List.map_cons, List.map_nil, List.length_cons, List.length_nil, List.replicate, List.cons_append, List.nil_append, List.append_nil, List.getElem?_cons_zero, List.getElem?_cons_succ, List.set_cons_zero, List.set_cons_succ, Option.some.injEq, V.int.injEq, V.bl.injEq, V.ref.injEq, V.ty.injEq, List.cons.injEq, and_true, true_and, exists_eq_left, exists_eq_left', exists_and_left, exists_and_right, exists_eq, exists_eq', and_assoc, Nat.reduceAdd, Nat.reduceSub, Bool.not_true, Bool.not_false, Bool.false_eq_true, if_true, if_false, reduceIte, Nat.zero_add, decide_true, decide_false, selC, comp_K, tYes, Option.join_some, rIxTH, rIxLH, rLenH, rIsiF, at0, at1, at2, at3, at4, at5, at6, at7, at8, HO.tup.injEq, HO.lst.injEq, reduceCtorEq, false_or, or_false, tyF_non, tyF_bl, tyF_int, tyF_str, exists_const, Int.reduceAdd, Int.reduceMul, Int.reduceSub, gSub, rSetL, tSl, tPart, tNoPart, rSlH, upd_same, upd_upd, rIntB, rListH, tBM, tBM0, rAppend, rClear, tPar, gTupH]
  refine ⟨⟨by decide, by decide⟩, ⟨by decide, by decide⟩, fun n H1 hn ln g1 => ⟨by omega, ⟨by decide, by decide⟩, by decide, ite2 (fun _ => ⟨⟨by decide, by decide⟩, fun m hm lm => k2 _ _ (by omega) lm g1⟩) (fun _ => k2 _ _ ?_ ?_ g1)⟩⟩
  · exact Int.fmod_nonneg_of_pos _ (by omega)
  · have h1 := Int.fmod_nonneg_of_pos (c / 24) (b := n) (by omega)
    have h2 := Int.fmod_lt_of_pos (c / 24) (b := n) (by omega)
    omega
theorem ok_law_spoilt (T : Txt K mg ad fd ca) : FnOk P w K mg base CX0 1 (ad 18) (fd 18) ["_law_text", "_law_cell"] sp_spoilt := by
  refine T.law_spoilt.fn.ok sc_law_spoilt (fun vs H Q E h => ?_) (fun cdv A outer s H vs Q E hr h => ?_)
  · obtain ⟨x, c, rfl, _⟩ := h
    rfl
  obtain ⟨x, c, rfl, hx, hc, k⟩ := h
  have qpss6 := @pss6
  have qps_set := @ps_set
  have qpe_str := @pe_str
  have qpe_op := @pe_op
  have qpv := @pv
  have qpe_int := @pe_int
  have qpe_callB := @pe_callB
  have qpa1 := @pa1
  have qps_if := @ps_if
  have qpt_cmpR := @pt_cmpR
  have qpss_one := @pss_one
  have qps_ret := @ps_ret
  have qpe_slice := @pe_slice
  have qpo_none := @po_none
  have qpo_some := @po_some
  have qpss_nil := @pss_nil
  have qpe_ix := @pe_ix
  generalize @L2.PE = QE, @L2.PT = QT, @L2.PW = QW, @L2.PA = QA, @L2.PS = QS, @L2.PSs = QSs, @L2.PG = QG, @L2.PGs = QGs, @L2.PI = QI, @L2.PO = QO, @L2.PIf = QIf at qpss6 qps_set qpe_str qpe_op qpv qpe_int qpe_callB qpa1 qps_if qpt_cmpR qpss_one qps_ret qpe_slice qpo_none qpo_some qpss_nil qpe_ix ⊢
  refine ⟨_,
    (qpss6
      (qps_set (i := 2) sc_law_spoilt.nd rfl (Or.inl rfl) qpe_str)
      (qps_set (i := 3) sc_law_spoilt.nd rfl (Or.inl rfl) (qpe_op op_modN (qpe_op op_fdiv (qpv 1) qpe_int) (qpe_op op_add (qpe_callB call_len_str rfl T.b_len bt_len (qpa1 (qpv 0) ns_Name)) qpe_int)))
      (qps_set (i := 4) sc_law_spoilt.nd rfl (Or.inl rfl) (qpe_op op_mod (qpe_op op_fdiv (qpv 1) qpe_int) qpe_int))
      (qps_if (qpt_cmpR op_eq (qpe_op op_mod (qpv 1) qpe_int) qpe_int (nomark _)) (qpss_one (qps_ret (qpe_op op_add_str (qpe_slice sl_str (qpv 0) qpo_none (qpo_some (qpv 3))) (qpe_slice sl_str (qpv 0) (qpo_some (qpe_op op_add (qpv 3) qpe_int)) qpo_none)))) qpss_nil)
      (qps_if (qpt_cmpR op_eq (qpe_op op_mod (qpv 1) qpe_int) qpe_int (nomark _)) (qpss_one (qps_ret (qpe_op op_add_str (qpe_op op_add_str (qpe_slice sl_str (qpv 0) qpo_none (qpo_some (qpv 3))) (qpe_ix ix_str (qpv 2) (qpv 4) (fun _ _ => rfl))) (qpe_slice sl_str (qpv 0) (qpo_some (qpv 3)) qpo_none)))) qpss_nil)
      (qps_ret (qpe_op op_add_str (qpe_op op_add_str (qpe_slice sl_str (qpv 0) qpo_none (qpo_some (qpv 3))) (qpe_ix ix_str (qpv 2) (qpv 4) (fun _ _ => rfl))) (qpe_slice sl_str (qpv 0) (qpo_some (qpe_op op_add (qpv 3) qpe_int)) qpo_none))))
    , ?_⟩
  clear  qpss6 qps_set qpe_str qpe_op qpv qpe_int qpe_callB qpa1 qps_if qpt_cmpR qpss_one qps_ret qpe_slice qpo_none qpo_some qpss_nil qpe_ix QE QT QW QA QS QSs QG QGs QI QO QIf
  simp only [iStr, rSplit, rStarts, rIntT, rSlS, rMulS, rAll, rIxS, tyV_s, scal_ss, V.str.injEq, tSeq, tNext, tRet, tRetN, tIfS, tAsg, gName, tDrop, tVar, tC, tOp, tUn, rI, rI0, rU, rEq, rNe, tTest, tB, tNot, tAnd, tOr, tAndV, tOrV, tNotV, tIf, tCB, tCall, tNil, tCons, tTup, tLst, gTup, gCons, gNil, L2.start, rIsi, rIxT, rIxL, cx_K, tyN_non, tyN_bl, tyN_int, tyN_str, isi_ii, isi_ib, isi_it, isi_il, isi_bi, isi_bb, isi_tt, isi_ni, isi_si, isi_ti, isi_li, isi_di, isi_ll, scal_ii, scal_bb, sz0, sz1, sz2, sz3, sz4, List.map_cons, List.map_nil, List.length_cons, List.length_nil, List.replicate, List.cons_append, List.nil_append, List.append_nil, List.getElem?_cons_zero, List.getElem?_cons_succ, List.set_cons_zero, List.set_cons_succ, Option.some.injEq, V.int.injEq, V.bl.injEq, V.ref.injEq, V.ty.injEq, List.cons.injEq, and_true, true_and, exists_eq_left, exists_eq_left', exists_and_left, exists_and_right, exists_eq, exists_eq', and_assoc, Nat.reduceAdd, Nat.reduceSub, Bool.not_true, Bool.not_false, Bool.false_eq_true, if_true, if_false, reduceIte, Nat.zero_add, decide_true, decide_false, selC, comp_K, tYes, Option.join_some, rIxTH, rIxLH, rLenH, rIsiF, at0, at1, at2, at3, at4, at5, at6, at7, at8, HO.tup.injEq, HO.lst.injEq, reduceCtorEq, false_or, or_false, tyF_non, tyF_bl, tyF_int, tyF_str, exists_const, Int.reduceAdd, Int.reduceMul, Int.reduceSub, gSub, rSetL, tSl, tPart, tNoPart, rSlH, upd_same, upd_upd, rIntB, rListH, tBM, tBM0, rAppend, rClear, tPar, gTupH]
  have hz : x.length ≤ sizeLine := sz_of (by omega)
  have ls : (Str.ofString "0123456789-/,; +.ex_\t\n").cps.toList.length = 22 := by decide +kernel
  have lz : (Str.ofString "0123456789-/,; +.ex_\t\n").length ≤ sizeLine := by rw [len_list, ls]; exact sz_of (by decide)
  obtain ⟨d, hd⟩ : ∃ d, atI (Str.ofString "0123456789-/,; +.ex_\t\n").cps.toList (c / 61 % 22) = some d := by
    have e : c / 61 % 22 = (((c / 61 % 22).toNat : Nat) : Int) := by omega
    rw [e]
    exact ⟨_, atI_nat (List.getElem?_eq_getElem (by rw [ls]; omega))⟩
  have l1 : ({ cps := #[d] } : Str).length = 1 := rfl
  have e : ∀ (l u : Option Int), (Txt.slice x l u).length ≤ x.length := fun l u => Txt.slice_le _ _ _
  generalize hw : (c / 3).fmod ((x.length : Int) + 1) = w'
  have a1 := e none (some w')
  have a2 := e (some (w' + 1)) none
  have a3 := e (some w') none
  refine ⟨⟨by decide, by decide⟩, hz, by omega, ⟨by decide, by decide⟩, by decide, by decide, ite2 (fun _ => ⟨hz, hz, sz_of (by omega), k _ (by rw [Str.length_append]; omega)⟩) (fun _ => ⟨by decide, ite2 (fun _ => ?_) (fun _ => ?_)⟩)⟩
  · exact ⟨hz, lz, d, hd, sz_of (by omega), hz, sz_of (by rw [Str.length_append]; omega), k _ (by rw [Str.length_append, Str.length_append]; omega)⟩
  · exact ⟨hz, lz, d, hd, sz_of (by omega), hz, sz_of (by rw [Str.length_append]; omega), k _ (by rw [Str.length_append, Str.length_append]; omega)⟩
theorem ok_law_odd (T : Txt K mg ad fd ca) : FnOk P w K mg base CX0 1 (ad 19) (fd 19) ["_law_cell"] sp_odd := by
  refine T.law_odd.fn.ok sc_law_odd (fun vs H Q E h => ?_) (fun cdv A outer s H vs Q E hr h => ?_)
  · obtain ⟨x, rfl, _⟩ := h
    rfl
  obtain ⟨c, rfl, k⟩ := h
  have qpss7 := @pss7
  have qps_set := @ps_set
  have qpe_lst := @pe_lst
  have qpa12 := @pa12
  have qpe_str := @pe_str
  have qpe_op := @pe_op
  have qpv := @pv
  have qpa3 := @pa3
  have qpa9 := @pa9
  have qpa8 := @pa8
  have qpa2 := @pa2
  have qpe_int := @pe_int
  have qps_ret := @ps_ret
  have qpe_ix := @pe_ix
  have qpe_callB := @pe_callB
  have qpa1 := @pa1
  generalize @L2.PE = QE, @L2.PT = QT, @L2.PW = QW, @L2.PA = QA, @L2.PS = QS, @L2.PSs = QSs, @L2.PG = QG, @L2.PGs = QGs, @L2.PI = QI, @L2.PO = QO, @L2.PIf = QIf at qpss7 qps_set qpe_lst qpa12 qpe_str qpe_op qpv qpa3 qpa9 qpa8 qpa2 qpe_int qps_ret qpe_ix qpe_callB qpa1 ⊢
  refine ⟨_,
    (qpss7
      (qps_set (i := 1) sc_law_odd.nd rfl (Or.inl rfl) (qpe_lst (qpa12 qpe_str ns_Constant qpe_str ns_Constant qpe_str ns_Constant qpe_str ns_Constant qpe_str ns_Constant qpe_str ns_Constant qpe_str ns_Constant qpe_str ns_Constant qpe_str ns_Constant qpe_str ns_Constant qpe_str ns_Constant qpe_str ns_Constant)))
      (qps_set (i := 1) sc_law_odd.nd rfl (Or.inl rfl) (qpe_op op_cat (qpv 1) (qpe_lst (qpa3 qpe_str ns_Constant qpe_str ns_Constant qpe_str ns_Constant))))
      (qps_set (i := 1) sc_law_odd.nd rfl (Or.inl rfl) (qpe_op op_cat (qpv 1) (qpe_lst (qpa9 qpe_str ns_Constant qpe_str ns_Constant qpe_str ns_Constant qpe_str ns_Constant qpe_str ns_Constant qpe_str ns_Constant qpe_str ns_Constant qpe_str ns_Constant qpe_str ns_Constant))))
      (qps_set (i := 1) sc_law_odd.nd rfl (Or.inl rfl) (qpe_op op_cat (qpv 1) (qpe_lst (qpa3 qpe_str ns_Constant qpe_str ns_Constant qpe_str ns_Constant))))
      (qps_set (i := 1) sc_law_odd.nd rfl (Or.inl rfl) (qpe_op op_cat (qpv 1) (qpe_lst (qpa8 qpe_str ns_Constant qpe_str ns_Constant qpe_str ns_Constant qpe_str ns_Constant qpe_str ns_Constant qpe_str ns_Constant qpe_str ns_Constant qpe_str ns_Constant))))
      (qps_set (i := 1) sc_law_odd.nd rfl (Or.inl rfl) (qpe_op op_cat (qpv 1) (qpe_lst (qpa2 (qpe_op op_add_str (qpe_op op_mulS qpe_str qpe_int) qpe_str) ns_BinOp (qpe_op op_add_str qpe_str (qpe_op op_mulS qpe_str qpe_int)) ns_BinOp))))
      (qps_ret (qpe_ix ix_listH (qpv 1) (qpe_op op_modN (qpv 0) (qpe_callB call_lenH rfl T.b_len bt_len (qpa1 (qpv 1) ns_Name))) (fun _ _ => rfl))))
    , ?_⟩
  clear  qpss7 qps_set qpe_lst qpa12 qpe_str qpe_op qpv qpa3 qpa9 qpa8 qpa2 qpe_int qps_ret qpe_ix qpe_callB qpa1 QE QT QW QA QS QSs QG QGs QI QO QIf
  simp only [iStr, rSplit, rStarts, rIntT, rSlS, rMulS, rAll, rIxS, tyV_s, scal_ss, V.str.injEq, tSeq, tNext, tRet, tRetN, tIfS, tAsg, gName, tDrop, tVar, tC, tOp, tUn, rI, rI0, rU, rEq, rNe, tTest, tB, tNot, tAnd, tOr, tAndV, tOrV, tNotV, tIf, tCB, tCall, tNil, tCons, tTup, tLst, gTup, gCons, gNil, L2.start, rIsi, rIxT, rIxL, cx_K, tyN_non, tyN_bl, tyN_int, tyN_str, isi_ii, isi_ib, isi_it, isi_il, isi_bi, isi_bb, isi_tt, isi_ni, isi_si, isi_ti, isi_li, isi_di, isi_ll, scal_ii, scal_bb, sz0, sz1, sz2, sz3, sz4, List.map_cons, List.map_nil, List.length_cons, List.length_nil, List.replicate, List.cons_append, List.nil_append, List.append_nil, List.getElem?_cons_zero, List.getElem?_cons_succ, List.set_cons_zero, List.set_cons_succ, Option.some.injEq, V.int.injEq, V.bl.injEq, V.ref.injEq, V.ty.injEq, List.cons.injEq, and_true, true_and, exists_eq_left, exists_eq_left', exists_and_left, exists_and_right, exists_eq, exists_eq', and_assoc, Nat.reduceAdd, Nat.reduceSub, Bool.not_true, Bool.not_false, Bool.false_eq_true, if_true, if_false, reduceIte, Nat.zero_add, decide_true, decide_false, selC, comp_K, tYes, Option.join_some, rIxTH, rIxLH, rLenH, rIsiF, at0, at1, at2, at3, at4, at5, at6, at7, at8, HO.tup.injEq, HO.lst.injEq, reduceCtorEq, false_or, or_false, tyF_non, tyF_bl, tyF_int, tyF_str, exists_const, Int.reduceAdd, Int.reduceMul, Int.reduceSub, gSub, rSetL, tSl, tPart, tNoPart, rSlH, upd_same, upd_upd, rIntB, rListH, tBM, tBM0, rAppend, rClear, tPar, gTupH]
  refine ⟨sz_of (by decide), fun p1 n1 p2 n2 => cat_step upd_same n2 (by decide) fun q1 H1 g1 h1 => ⟨sz_of (by decide), fun p3 n3 => cat_step h1 n3 (by decide) fun q2 H2 g2 h2 p4 n4 => cat_step h2 n4 (by decide) fun q3 H3 g3' h3 => ⟨sz_of (by decide), fun p5 n5 => cat_step h3 n5 (by decide) fun q4 H4 g4 h4 => ⟨mul_ok (by decide +kernel) (by decide), by decide +kernel, mul_ok (by decide +kernel) (by decide), by decide +kernel, fun p6 n6 => cat_step h4 n6 (by decide) fun q5 H5 g5 h5 => ⟨q5, rfl, _, .inl h5, by decide, q5, rfl, _, h5, ?_⟩⟩⟩⟩⟩
  have gg := (same_new n1 _).trans (g1.trans (g2.trans (g3'.trans (g4.trans g5))))
  exact odd_pick (by decide) (by decide +kernel) c fun x hx => k x _ hx gg
theorem ok_law_read (T : Txt K mg ad fd ca) : FnOk P w K mg base CX0 5 (ad 20) (fd 20) ["_law_text"] (sp_lread (ca 5)) := by
  refine T.law_read.fn.ok sc_law_read (fun vs H Q E h => ?_) (fun cdv A outer s H vs Q E hr h => ?_)
  · rcases h with ⟨x, Tx, rfl, _⟩ | ⟨x, rfl, _⟩
    · rfl
    · rfl
  have qpss_one := @pss_one
  have qps_try_as := @ps_try_as
  have qps_ret := @ps_ret
  have qpe_call := @pe_call
  have qpa1 := @pa1
  have qpv := @pv
  have qpss3 := @pss3
  have qps_if := @ps_if
  have qPWpt := @PW.pt
  have qpw_or := @pw_or
  have qpt_val := @pt_val
  have qpe_callB := @pe_callB
  have qpa2 := @pa2
  have qpe_tup := @pe_tup
  have qpa5 := @pa5
  have qpe_glob := @pe_glob
  have qpw_or1 := @pw_or1
  have qpt_not := @pt_not
  have qpe_str := @pe_str
  have qpss_nil := @pss_nil
  have qpe_bltn := @pe_bltn
  generalize @L2.PE = QE, @L2.PT = QT, @L2.PW = QW, @L2.PA = QA, @L2.PS = QS, @L2.PSs = QSs, @L2.PG = QG, @L2.PGs = QGs, @L2.PI = QI, @L2.PO = QO, @L2.PIf = QIf at qpss_one qps_try_as qps_ret qpe_call qpa1 qpv qpss3 qps_if qPWpt qpw_or qpt_val qpe_callB qpa2 qpe_tup qpa5 qpe_glob qpw_or1 qpt_not qpe_str qpss_nil qpe_bltn ⊢
  refine ⟨_,
    (qpss_one (qps_try_as (n := 2) (K := K) (i := 1) rfl rfl rfl rfl rfl sc_law_read.nd rfl rfl rfl T.x_NoText (fun W pn E hp => (qpss_one (qps_ret (qpe_call (ok_read_point T) (hr.mono (by decide)) rfl T.read_point.mg T.read_point.fn.kp T.read_point.bn .nil hp (qpa1 (qpv 0) ns_Name))))) (fun ea pn => (qpss3
      (qps_if (qPWpt (qpw_or (qpt_val (qpe_callB (call_isiXs (K := K) rfl) rfl T.b_isinstance bt_isinstance (qpa2 (qpv 1) ns_Name (qpe_tup (qpa5 (qpe_glob (v := .ref (ca 4)) rfl T.x_NoName rfl) ns_Name (qpe_glob (v := .ref (ca 6)) rfl T.x_NoRow rfl) ns_Name (qpe_glob (v := .ref (ca 1)) rfl T.x_NoNumber rfl) ns_Name (qpe_glob (v := .ref (ca 2)) rfl T.x_NoPoint rfl) ns_Name (qpe_glob (v := .ref (ca 3)) rfl T.x_NoStretch rfl) ns_Name)) ns_Tuple))) (qpw_or1 (qpt_not (qpt_val (qpe_callB (call_isiR (K := K) (C := ca 0) rfl) rfl T.b_isinstance bt_isinstance (qpa2 (qpv 1) ns_Name (qpe_glob (v := .ref (ca 0)) rfl T.x_AcreError rfl) ns_Name))))))) (qpss_one (qps_ret qpe_str)) qpss_nil)
      (qps_if (qpt_not (qpt_val (qpe_callB (call_isiT (K := K) (T := "ValueError") rfl) rfl T.b_isinstance bt_isinstance (qpa2 (qpv 1) ns_Name (qpe_bltn (v := .ty "ValueError") rfl T.b_ValueError bt_ValueError rfl) ns_Name)))) (qpss_one (qps_ret qpe_str)) qpss_nil)
      (qps_ret qpe_str)))))
    , ?_⟩
  clear  qpss_one qps_try_as qps_ret qpe_call qpa1 qpv qpss3 qps_if qPWpt qpw_or qpt_val qpe_callB qpa2 qpe_tup qpa5 qpe_glob qpw_or1 qpt_not qpe_str qpss_nil qpe_bltn QE QT QW QA QS QSs QG QGs QI QO QIf
  have ka : PySem.W.kitAny K (.ref (ca 5)) ([ca 4, ca 6, ca 1, ca 2, ca 3].map Value.ref) = some false := by
    simp only [List.map_cons, List.map_nil, PySem.W.kitAny, T.is_NoText_NoName, T.is_NoText_NoRow, T.is_NoText_NoNumber, T.is_NoText_NoPoint, T.is_NoText_NoStretch]
  rcases h with ⟨x, Tx, rfl, ht, hb, k⟩ | ⟨x, rfl, hx, h⟩
  · simp only [tTry, rIsiXs, rIsiX, iStr, rSplit, rStarts, rIntT, rSlS, rMulS, rAll, rIxS, tyV_s, scal_ss, V.str.injEq, tSeq, tNext, tRet, tRetN, tIfS, tAsg, gName, tDrop, tVar, tC, tOp, tUn, rI, rI0, rU, rEq, rNe, tTest, tB, tNot, tAnd, tOr, tAndV, tOrV, tNotV, tIf, tCB, tCall, tNil, tCons, tTup, tLst, gTup, gCons, gNil, L2.start, rIsi, rIxT, rIxL, cx_K, tyN_non, tyN_bl, tyN_int, tyN_str, isi_ii, isi_ib, isi_it, isi_il, isi_bi, isi_bb, isi_tt, isi_ni, isi_si, isi_ti, isi_li, isi_di, isi_ll, scal_ii, scal_bb, sz0, sz1, sz2, sz3, sz4, List.map_cons, List.map_nil, List.length_cons, List.length_nil, List.replicate, List.cons_append, List.nil_append, List.append_nil, List.getElem?_cons_zero, List.getElem?_cons_succ, List.set_cons_zero, List.set_cons_succ, Option.some.injEq, V.int.injEq, V.bl.injEq, V.ref.injEq, V.ty.injEq, List.cons.injEq, and_true, true_and, exists_eq_left, exists_eq_left', exists_and_left, exists_and_right, exists_eq, exists_eq', and_assoc, Nat.reduceAdd, Nat.reduceSub, Bool.not_true, Bool.not_false, Bool.false_eq_true, if_true, if_false, reduceIte, Nat.zero_add, decide_true, decide_false, selC, comp_K, tYes, Option.join_some, rIxTH, rIxLH, rLenH, rIsiF, at0, at1, at2, at3, at4, at5, at6, at7, at8, HO.tup.injEq, HO.lst.injEq, reduceCtorEq, false_or, or_false, tyF_non, tyF_bl, tyF_int, tyF_str, exists_const, Int.reduceAdd, Int.reduceMul, Int.reduceSub, gSub, rSetL, tSl, tPart, tNoPart, rSlH, upd_same, upd_upd, rIntB, rListH, tBM, tBM0, rAppend, rClear, tPar, gTupH]
    refine ⟨fun cls _ H' => cls = .ref (ca 5) ∧ Same H H', .inl ⟨x, Tx, rfl, ht, hb, rfl, .refl _⟩, ?_⟩
    rintro cls dx H' ⟨rfl, g⟩
    refine ⟨ca 5, rfl, T.ex_NoText_NoText, fun ea hea => ?_⟩
    refine ⟨sz_of (by decide), fun p hp => ?_⟩
    have he : upd H' ea (excO ea (ca 5)) ea = some (excO ea (ca 5)) := upd_same
    have g2 := same_new hea (excO ea (ca 5))
    have g3' := same_new hp (HO.tup [V.ref (ca 4), V.ref (ca 6), V.ref (ca 1), V.ref (ca 2), V.ref (ca 3)])
    have he3 := g3' _ _ he
    exact ⟨ca 5, he3, T.xi_NoText, [ca 4, ca 6, ca 1, ca 2, ca 3], rfl, _, ka, iteF ⟨ca 5, he3, T.xi_NoText, _, T.is_NoText_AcreError, iteF ⟨ca 5, he3, T.xi_NoText, _, T.is_NoText_ValueError, iteF (k _ (g.trans (g2.trans g3')))⟩⟩⟩
  · simp only [tTry, rIsiXs, rIsiX, iStr, rSplit, rStarts, rIntT, rSlS, rMulS, rAll, rIxS, tyV_s, scal_ss, V.str.injEq, tSeq, tNext, tRet, tRetN, tIfS, tAsg, gName, tDrop, tVar, tC, tOp, tUn, rI, rI0, rU, rEq, rNe, tTest, tB, tNot, tAnd, tOr, tAndV, tOrV, tNotV, tIf, tCB, tCall, tNil, tCons, tTup, tLst, gTup, gCons, gNil, L2.start, rIsi, rIxT, rIxL, cx_K, tyN_non, tyN_bl, tyN_int, tyN_str, isi_ii, isi_ib, isi_it, isi_il, isi_bi, isi_bb, isi_tt, isi_ni, isi_si, isi_ti, isi_li, isi_di, isi_ll, scal_ii, scal_bb, sz0, sz1, sz2, sz3, sz4, List.map_cons, List.map_nil, List.length_cons, List.length_nil, List.replicate, List.cons_append, List.nil_append, List.append_nil, List.getElem?_cons_zero, List.getElem?_cons_succ, List.set_cons_zero, List.set_cons_succ, Option.some.injEq, V.int.injEq, V.bl.injEq, V.ref.injEq, V.ty.injEq, List.cons.injEq, and_true, true_and, exists_eq_left, exists_eq_left', exists_and_left, exists_and_right, exists_eq, exists_eq', and_assoc, Nat.reduceAdd, Nat.reduceSub, Bool.not_true, Bool.not_false, Bool.false_eq_true, if_true, if_false, reduceIte, Nat.zero_add, decide_true, decide_false, selC, comp_K, tYes, Option.join_some, rIxTH, rIxLH, rLenH, rIsiF, at0, at1, at2, at3, at4, at5, at6, at7, at8, HO.tup.injEq, HO.lst.injEq, reduceCtorEq, false_or, or_false, tyF_non, tyF_bl, tyF_int, tyF_str, exists_const, Int.reduceAdd, Int.reduceMul, Int.reduceSub, gSub, rSetL, tSl, tPart, tNoPart, rSlH, upd_same, upd_upd, rIntB, rListH, tBM, tBM0, rAppend, rClear, tPar, gTupH]
    rcases h with ⟨e, k⟩ | ⟨a, e, k⟩
    · refine ⟨fun cls _ H' => cls = .ref (ca 5) ∧ Same H H', .inr ⟨x, rfl, hx, .inl ⟨e, fun H' g => ⟨rfl, g⟩⟩⟩, ?_⟩
      rintro cls dx H' ⟨rfl, g⟩
      refine ⟨ca 5, rfl, T.ex_NoText_NoText, fun ea hea => ?_⟩
      refine ⟨sz_of (by decide), fun p hp => ?_⟩
      have he : upd H' ea (excO ea (ca 5)) ea = some (excO ea (ca 5)) := upd_same
      have g2 := same_new hea (excO ea (ca 5))
      have g3' := same_new hp (HO.tup [V.ref (ca 4), V.ref (ca 6), V.ref (ca 1), V.ref (ca 2), V.ref (ca 3)])
      have he3 := g3' _ _ he
      exact ⟨ca 5, he3, T.xi_NoText, [ca 4, ca 6, ca 1, ca 2, ca 3], rfl, _, ka, iteF ⟨ca 5, he3, T.xi_NoText, _, T.is_NoText_AcreError, iteF ⟨ca 5, he3, T.xi_NoText, _, T.is_NoText_ValueError, iteF (k _ (g.trans (g2.trans g3')))⟩⟩⟩
    · exact ⟨fun _ _ _ => False, .inr ⟨x, rfl, hx, .inr ⟨a, e, k⟩⟩, fun _ _ _ z => z.elim⟩
theorem ok_law_right (T : Txt K mg ad fd ca) : FnOk P w K mg base CX0 6 (ad 21) (fd 21) ["_law_text"] sp_right := by
  refine T.law_right.fn.ok sc_law_right (fun vs H Q E h => ?_) (fun cdv A outer s H vs Q E hr h => ?_)
  · obtain ⟨x, rfl, _⟩ := h
    rfl
  obtain ⟨x, rfl, hx, k⟩ := h
  have qpss5 := @pss5
  have qps_set := @ps_set
  have qpe_call := @pe_call
  have qpa1 := @pa1
  have qpv := @pv
  have qps_if := @ps_if
  have qpt_cmpR := @pt_cmpR
  have qpe_non := @pe_non
  have qpss_one := @pss_one
  have qpe_str := @pe_str
  have qpss_nil := @pss_nil
  have qpt_val := @pt_val
  have qpe_callB := @pe_callB
  have qpa2 := @pa2
  have qpe_bltn := @pe_bltn
  have qps_ret := @ps_ret
  have qpe_and := @pe_and
  have qpe_one := @pe_one
  have qpe_cmpR := @pe_cmpR
  generalize @L2.PE = QE, @L2.PT = QT, @L2.PW = QW, @L2.PA = QA, @L2.PS = QS, @L2.PSs = QSs, @L2.PG = QG, @L2.PGs = QGs, @L2.PI = QI, @L2.PO = QO, @L2.PIf = QIf at qpss5 qps_set qpe_call qpa1 qpv qps_if qpt_cmpR qpe_non qpss_one qpe_str qpss_nil qpt_val qpe_callB qpa2 qpe_bltn qps_ret qpe_and qpe_one qpe_cmpR ⊢
  refine ⟨_,
    (qpss5
      (qps_set (i := 1) sc_law_right.nd rfl (Or.inl rfl) (qpe_call (ok_law_point T) (hr.mono (by decide)) rfl T.law_point.mg T.law_point.fn.kp T.law_point.bn .nil pass0 (qpa1 (qpv 0) ns_Name)))
      (qps_if (qpt_cmpR op_isN (qpv 1) qpe_non (nomark _)) (qpss_one (qps_set (i := 1) sc_law_right.nd rfl (Or.inl rfl) qpe_str)) qpss_nil)
      (qps_set (i := 2) sc_law_right.nd rfl (Or.inl rfl) (qpe_call (ok_law_read T) (hr.mono (by decide)) rfl T.law_read.mg T.law_read.fn.kp T.law_read.bn .nil pass0 (qpa1 (qpv 0) ns_Name)))
      (qps_if (qpt_val (qpe_callB (isiF call_isi_str) rfl T.b_isinstance bt_isinstance (qpa2 (qpv 1) ns_Name (qpe_bltn (v := .ty "str") rfl T.b_str bt_str rfl) ns_Name))) (qpss_one (qps_ret (qpe_and (qpe_callB (isiF call_isi_str) rfl T.b_isinstance bt_isinstance (qpa2 (qpv 2) ns_Name (qpe_bltn (v := .ty "str") rfl T.b_str bt_str rfl) ns_Name)) (qpe_one (qpe_cmpR op_eq (qpv 2) (qpv 1) (nomark _)))))) qpss_nil)
      (qps_ret (qpe_call (ok_law_alike T) (hr.mono (by decide)) rfl T.law_alike.mg T.law_alike.fn.kp T.law_alike.bn .nil pass0 (qpa2 (qpv 2) ns_Name (qpv 1) ns_Name))))
    , ?_⟩
  clear  qpss5 qps_set qpe_call qpa1 qpv qps_if qpt_cmpR qpe_non qpss_one qpe_str qpss_nil qpt_val qpe_callB qpa2 qpe_bltn qps_ret qpe_and qpe_one qpe_cmpR QE QT QW QA QS QSs QG QGs QI QO QIf
  simp only [iStr, rSplit, rStarts, rIntT, rSlS, rMulS, rAll, rIxS, tyV_s, scal_ss, V.str.injEq, tSeq, tNext, tRet, tRetN, tIfS, tAsg, gName, tDrop, tVar, tC, tOp, tUn, rI, rI0, rU, rEq, rNe, tTest, tB, tNot, tAnd, tOr, tAndV, tOrV, tNotV, tIf, tCB, tCall, tNil, tCons, tTup, tLst, gTup, gCons, gNil, L2.start, rIsi, rIxT, rIxL, cx_K, tyN_non, tyN_bl, tyN_int, tyN_str, isi_ii, isi_ib, isi_it, isi_il, isi_bi, isi_bb, isi_tt, isi_ni, isi_si, isi_ti, isi_li, isi_di, isi_ll, scal_ii, scal_bb, sz0, sz1, sz2, sz3, sz4, List.map_cons, List.map_nil, List.length_cons, List.length_nil, List.replicate, List.cons_append, List.nil_append, List.append_nil, List.getElem?_cons_zero, List.getElem?_cons_succ, List.set_cons_zero, List.set_cons_succ, Option.some.injEq, V.int.injEq, V.bl.injEq, V.ref.injEq, V.ty.injEq, List.cons.injEq, and_true, true_and, exists_eq_left, exists_eq_left', exists_and_left, exists_and_right, exists_eq, exists_eq', and_assoc, Nat.reduceAdd, Nat.reduceSub, Bool.not_true, Bool.not_false, Bool.false_eq_true, if_true, if_false, reduceIte, Nat.zero_add, decide_true, decide_false, selC, comp_K, tYes, Option.join_some, rIxTH, rIxLH, rLenH, rIsiF, at0, at1, at2, at3, at4, at5, at6, at7, at8, HO.tup.injEq, HO.lst.injEq, reduceCtorEq, false_or, or_false, tyF_non, tyF_bl, tyF_int, tyF_str, exists_const, Int.reduceAdd, Int.reduceMul, Int.reduceSub, gSub, rSetL, tSl, tPart, tNoPart, rSlH, upd_same, upd_upd, rIntB, rListH, tBM, tBM0, rAppend, rClear, tPar, gTupH]
  cases e : ptV x with
  | none =>
    refine ⟨x, rfl, hx, .inl ⟨e, fun H1 g1 => iteT (.inr ⟨x, rfl, hx, .inl ⟨e, fun H2 g2 => ?_⟩⟩)⟩⟩
    simp only [isi_ss, iStr, rSplit, rStarts, rIntT, rSlS, rMulS, rAll, rIxS, tyV_s, scal_ss, V.str.injEq, tSeq, tNext, tRet, tRetN, tIfS, tAsg, gName, tDrop, tVar, tC, tOp, tUn, rI, rI0, rU, rEq, rNe, tTest, tB, tNot, tAnd, tOr, tAndV, tOrV, tNotV, tIf, tCB, tCall, tNil, tCons, tTup, tLst, gTup, gCons, gNil, L2.start, rIsi, rIxT, rIxL, cx_K, tyN_non, tyN_bl, tyN_int, tyN_str, isi_ii, isi_ib, isi_it, isi_il, isi_bi, isi_bb, isi_tt, isi_ni, isi_si, isi_ti, isi_li, isi_di, isi_ll, scal_ii, scal_bb, sz0, sz1, sz2, sz3, sz4, List.map_cons, List.map_nil, List.length_cons, List.length_nil, List.replicate, List.cons_append, List.nil_append, List.append_nil, List.getElem?_cons_zero, List.getElem?_cons_succ, List.set_cons_zero, List.set_cons_succ, Option.some.injEq, V.int.injEq, V.bl.injEq, V.ref.injEq, V.ty.injEq, List.cons.injEq, and_true, true_and, exists_eq_left, exists_eq_left', exists_and_left, exists_and_right, exists_eq, exists_eq', and_assoc, Nat.reduceAdd, Nat.reduceSub, Bool.not_true, Bool.not_false, Bool.false_eq_true, if_true, if_false, reduceIte, Nat.zero_add, decide_true, decide_false, selC, comp_K, tYes, Option.join_some, rIxTH, rIxLH, rLenH, rIsiF, at0, at1, at2, at3, at4, at5, at6, at7, at8, HO.tup.injEq, HO.lst.injEq, reduceCtorEq, false_or, or_false, tyF_non, tyF_bl, tyF_int, tyF_str, exists_const, Int.reduceAdd, Int.reduceMul, Int.reduceSub, gSub, rSetL, tSl, tPart, tNoPart, rSlH, upd_same, upd_upd, rIntB, rListH, tBM, tBM0, rAppend, rClear, tPar, gTupH]
    exact k H2 (g1.trans g2)
  | some a =>
    refine ⟨x, rfl, hx, .inr ⟨a, e, fun p H1 g1 hp => iteF (.inr ⟨x, rfl, hx, .inr ⟨a, e, fun q H2 g2 hq => ?_⟩⟩)⟩⟩
    have hp2 := g2 _ _ hp
    refine ⟨_, tyF_tup hp2, ?_⟩
    rw [isi_ts]
    refine iteF ⟨_, _, rfl, .inr ⟨q, p, _, _, rfl, rfl, .inl ⟨hq, hp2⟩, rfl, by simp, ?_⟩, k H2 (g1.trans g2)⟩
    intro j u v hu hv
    rw [hu] at hv
    cases hv
    match j, hu with
    | 0, hu => cases hu; exact .inl ⟨_, rfl, rfl⟩
    | 1, hu => cases hu; exact .inl ⟨_, rfl, rfl⟩
    | 2, hu => cases hu; exact .inl ⟨_, rfl, rfl⟩
theorem ok_law (T : Txt K mg ad fd ca) : FnOk P w K mg base CX0 7 (ad 22) (fd 22) ["_law_script"] (sp_law K) := by
  refine T.law.fn.ok sc_law (fun vs H Q E h => ?_) (fun cdv A outer s H vs Q E hr h => ?_)
  · obtain ⟨a, ns, rfl, _⟩ := h
    rfl
  obtain ⟨a0, ns, rfl, hS, hlen, k⟩ := h
  have qpss10 := @pss10
  have qps_set := @ps_set
  have qpe_op := @pe_op
  have qpe_call := @pe_call
  have qpa1 := @pa1
  have qpe_callB := @pe_callB
  have qpa2 := @pa2
  have qpv := @pv
  have qpe_int := @pe_int
  have qpe_str := @pe_str
  have qps_if := @ps_if
  have qPWpt := @PW.pt
  have qpw_or := @pw_or
  have qpt_not := @pt_not
  have qpt_val := @pt_val
  have qpw_or1 := @pw_or1
  have qpss_one := @pss_one
  have qps_ret := @ps_ret
  have qpe_bl := @pe_bl
  have qpss_nil := @pss_nil
  have qps_for := @ps_for
  have qpi_range1 := @pi_range1
  have qpg_name := @pg_name
  have qpt_cmpR := @pt_cmpR
  have qpe_non := @pe_non
  have qpe_tup := @pe_tup
  have qpe_un := @pe_un
  have qpe_callTy := @pe_callTy
  have qpe_ix := @pe_ix
  have qpe_and := @pe_and
  have qpe_bltn := @pe_bltn
  have qpe_one := @pe_one
  have qpe_cmpR := @pe_cmpR
  generalize @L2.PE = QE, @L2.PT = QT, @L2.PW = QW, @L2.PA = QA, @L2.PS = QS, @L2.PSs = QSs, @L2.PG = QG, @L2.PGs = QGs, @L2.PI = QI, @L2.PO = QO, @L2.PIf = QIf at qpss10 qps_set qpe_op qpe_call qpa1 qpe_callB qpa2 qpv qpe_int qpe_str qps_if qPWpt qpw_or qpt_not qpt_val qpw_or1 qpss_one qps_ret qpe_bl qpss_nil qps_for qpi_range1 qpg_name qpt_cmpR qpe_non qpe_tup qpe_un qpe_callTy qpe_ix qpe_and qpe_bltn qpe_one qpe_cmpR ⊢
  refine ⟨_,
    (qpss10
      (qps_set (i := 1) sc_law.nd rfl (Or.inl rfl) (qpe_op op_add_str (qpe_op op_add_str (qpe_call (ok_law_number_text T) (hr.mono (by decide)) rfl T.law_number_text.mg T.law_number_text.fn.kp T.law_number_text.bn .nil pass0 (qpa1 (qpe_callB call_abs rfl T.b_abs bt_abs (qpa1 (qpe_call (ok_law_cell_at T) (hr.mono (by decide)) rfl T.law_cell_at.mg T.law_cell_at.fn.kp T.law_cell_at.bn .nil pass0 (qpa2 (qpv 0) ns_Name qpe_int ns_Constant)) ns_Call)) ns_Call)) qpe_str) (qpe_call (ok_law_number_text T) (hr.mono (by decide)) rfl T.law_number_text.mg T.law_number_text.fn.kp T.law_number_text.bn .nil pass0 (qpa1 (qpe_callB call_abs rfl T.b_abs bt_abs (qpa1 (qpe_call (ok_law_cell_at T) (hr.mono (by decide)) rfl T.law_cell_at.mg T.law_cell_at.fn.kp T.law_cell_at.bn .nil pass0 (qpa2 (qpv 0) ns_Name qpe_int ns_Constant)) ns_Call)) ns_Call))))
      (qps_if (qPWpt (qpw_or (qpt_not (qpt_val (qpe_call (ok_law_right T) (hr.mono (by decide)) rfl T.law_right.mg T.law_right.fn.kp T.law_right.bn .nil pass0 (qpa1 (qpv 1) ns_Name)))) (qpw_or1 (qpt_not (qpt_val (qpe_call (ok_law_right T) (hr.mono (by decide)) rfl T.law_right.mg T.law_right.fn.kp T.law_right.bn .nil pass0 (qpa1 (qpe_call (ok_law_odd T) (hr.mono (by decide)) rfl T.law_odd.mg T.law_odd.fn.kp T.law_odd.bn .nil pass0 (qpa1 (qpe_call (ok_law_cell_at T) (hr.mono (by decide)) rfl T.law_cell_at.mg T.law_cell_at.fn.kp T.law_cell_at.bn .nil pass0 (qpa2 (qpv 0) ns_Name qpe_int ns_Constant)) ns_Call)) ns_Call))))))) (qpss_one (qps_ret qpe_bl)) qpss_nil)
      (qps_for PassesOwn.never rfl (qpi_range1 rfl T.b_range (qpa1 qpe_int ns_Constant)) (qpg_name (i := 2) sc_law.nd rfl (Or.inl rfl)) (qpss_one (qps_if (qpt_not (qpt_val (qpe_call (ok_law_right T) (hr.mono (by decide)) rfl T.law_right.mg T.law_right.fn.kp T.law_right.bn .nil pass0 (qpa1 (qpe_call (ok_law_spoilt T) (hr.mono (by decide)) rfl T.law_spoilt.mg T.law_spoilt.fn.kp T.law_spoilt.bn .nil pass0 (qpa2 (qpv 1) ns_Name (qpe_op op_add (qpe_callB call_abs rfl T.b_abs bt_abs (qpa1 (qpe_call (ok_law_cell_at T) (hr.mono (by decide)) rfl T.law_cell_at.mg T.law_cell_at.fn.kp T.law_cell_at.bn .nil pass0 (qpa2 (qpv 0) ns_Name (qpe_op op_add qpe_int (qpv 2)) ns_BinOp)) ns_Call)) (qpv 2)) ns_BinOp)) ns_Call)))) (qpss_one (qps_ret qpe_bl)) qpss_nil)))
      (qps_if (qPWpt (qpw_or (qpt_cmpR op_ne (qpe_call (ok_law_read T) (hr.mono (by decide)) rfl T.law_read.mg T.law_read.fn.kp T.law_read.bn .nil pass0 (qpa1 qpe_int ns_Constant)) qpe_str (nomark _)) (qpw_or (qpt_cmpR op_ne (qpe_call (ok_law_read T) (hr.mono (by decide)) rfl T.law_read.mg T.law_read.fn.kp T.law_read.bn .nil pass0 (qpa1 qpe_non ns_Constant)) qpe_str (nomark _)) (qpw_or1 (qpt_not (qpt_val (qpe_call (ok_law_right T) (hr.mono (by decide)) rfl T.law_right.mg T.law_right.fn.kp T.law_right.bn .nil pass0 (qpa1 (qpv 1) ns_Name)))))))) (qpss_one (qps_ret qpe_bl)) qpss_nil)
      (qps_set (i := 3) sc_law.nd rfl (Or.inl rfl) (qpe_call (ok_law_number T) (hr.mono (by decide)) rfl T.law_number.mg T.law_number.fn.kp T.law_number.bn .nil pass0 (qpa1 (qpe_call (ok_law_number_text T) (hr.mono (by decide)) rfl T.law_number_text.mg T.law_number_text.fn.kp T.law_number_text.bn .nil pass0 (qpa1 (qpe_callB call_abs rfl T.b_abs bt_abs (qpa1 (qpe_call (ok_law_cell_at T) (hr.mono (by decide)) rfl T.law_cell_at.mg T.law_cell_at.fn.kp T.law_cell_at.bn .nil pass0 (qpa2 (qpv 0) ns_Name qpe_int ns_Constant)) ns_Call)) ns_Call)) ns_Call)))
      (qps_if (qpt_cmpR op_isN (qpv 3) qpe_non (nomark _)) (qpss_one (qps_set (i := 3) sc_law.nd rfl (Or.inl rfl) (qpe_tup (qpa2 (qpe_un un_neg qpe_int) ns_UnaryOp qpe_int ns_Constant)))) qpss_nil)
      (qps_set (i := 4) sc_law.nd rfl (Or.inl rfl) (qpe_callTy call_str_int rfl T.b_str bt_str (qpa1 (qpe_ix ix_tupH (qpv 3) qpe_int (fun _ _ => rfl)) ns_Subscript)))
      (qps_if (qpt_cmpR op_gt (qpe_ix ix_tupH (qpv 3) qpe_int (fun _ _ => rfl)) qpe_int (nomark _)) (qpss_one (qps_set (i := 4) sc_law.nd rfl (Or.inl rfl) (qpe_op op_add_str (qpe_op op_add_str (qpv 4) qpe_str) (qpe_callTy call_str_int rfl T.b_str bt_str (qpa1 (qpe_ix ix_tupH (qpv 3) qpe_int (fun _ _ => rfl)) ns_Subscript))))) qpss_nil)
      (qps_set (i := 5) sc_law.nd rfl (Or.inl rfl) (qpe_call (ok_show_fraction T) (hr.mono (by decide)) rfl T.show_fraction.mg T.show_fraction.fn.kp T.show_fraction.bn .nil pass0 (qpa1 (qpv 3) ns_Name)))
      (qps_ret (qpe_and (qpe_callB (isiF call_isi_str) rfl T.b_isinstance bt_isinstance (qpa2 (qpv 5) ns_Name (qpe_bltn (v := .ty "str") rfl T.b_str bt_str rfl) ns_Name)) (qpe_one (qpe_cmpR op_eq (qpv 5) (qpv 4) (nomark _))))))
    , ?_⟩
  clear  qpss10 qps_set qpe_op qpe_call qpa1 qpe_callB qpa2 qpv qpe_int qpe_str qps_if qPWpt qpw_or qpt_not qpt_val qpw_or1 qpss_one qps_ret qpe_bl qpss_nil qps_for qpi_range1 qpg_name qpt_cmpR qpe_non qpe_tup qpe_un qpe_callTy qpe_ix qpe_and qpe_bltn qpe_one qpe_cmpR QE QT QW QA QS QSs QG QGs QI QO QIf
  simp only [sp_cell, iStr, rSplit, rStarts, rIntT, rSlS, rMulS, rAll, rIxS, tyV_s, scal_ss, V.str.injEq, tSeq, tNext, tRet, tRetN, tIfS, tAsg, gName, tDrop, tVar, tC, tOp, tUn, rI, rI0, rU, rEq, rNe, tTest, tB, tNot, tAnd, tOr, tAndV, tOrV, tNotV, tIf, tCB, tCall, tNil, tCons, tTup, tLst, gTup, gCons, gNil, L2.start, rIsi, rIxT, rIxL, cx_K, tyN_non, tyN_bl, tyN_int, tyN_str, isi_ii, isi_ib, isi_it, isi_il, isi_bi, isi_bb, isi_tt, isi_ni, isi_si, isi_ti, isi_li, isi_di, isi_ll, scal_ii, scal_bb, sz0, sz1, sz2, sz3, sz4, List.map_cons, List.map_nil, List.length_cons, List.length_nil, List.replicate, List.cons_append, List.nil_append, List.append_nil, List.getElem?_cons_zero, List.getElem?_cons_succ, List.set_cons_zero, List.set_cons_succ, Option.some.injEq, V.int.injEq, V.bl.injEq, V.ref.injEq, V.ty.injEq, List.cons.injEq, and_true, true_and, exists_eq_left, exists_eq_left', exists_and_left, exists_and_right, exists_eq, exists_eq', and_assoc, Nat.reduceAdd, Nat.reduceSub, Bool.not_true, Bool.not_false, Bool.false_eq_true, if_true, if_false, reduceIte, Nat.zero_add, decide_true, decide_false, selC, comp_K, tYes, Option.join_some, rIxTH, rIxLH, rLenH, rIsiF, at0, at1, at2, at3, at4, at5, at6, at7, at8, HO.tup.injEq, HO.lst.injEq, reduceCtorEq, false_or, or_false, tyF_non, tyF_bl, tyF_int, tyF_str, exists_const, Int.reduceAdd, Int.reduceMul, Int.reduceSub, gSub, rSetL, tSl, tPart, tNoPart, rSlH, upd_same, upd_upd, rIntB, rListH, tBM, tBM0, rAppend, rClear, tPar, gTupH]
  have c0 : ∀ z : Int, 0 ≤ if z < 0 then -z else z := fun z => by split <;> omega
  have lc : (Str.ofString ",").length = 1 := by decide +kernel
  refine ⟨ns, hS, by decide, _, rfl, c0 _, fun x1 H1 l1 g1 => ⟨x1, rfl, sz_of (by omega), ns, g1.seq hS, by decide, _, rfl, c0 _, fun x2 H2 l2 g2 => ⟨x2, rfl, sz_of (by rw [Str.length_append]; omega), ?_⟩⟩⟩
  have ltx : (x1 ++ Str.ofString "," ++ x2).length ≤ 441 := by rw [Str.length_append, Str.length_append]; omega
  generalize x1 ++ Str.ofString "," ++ x2 = tx at *
  have g12 := g1.trans g2
  refine ⟨_, rfl, by omega, fun H3 g3' => ⟨_, rfl, iteF ⟨ns, (g12.trans g3').seq hS, by decide, _, rfl, fun x3 H4 l3 g4 => ⟨x3, rfl, by omega, fun H5 g5 => ⟨_, rfl, iteF ?_⟩⟩⟩⟩⟩
  have g15 := g12.trans (g3'.trans (g4.trans g5))
  refine tFor_mk ?_
  simp only [iRng1, iStr, rSplit, rStarts, rIntT, rSlS, rMulS, rAll, rIxS, tyV_s, scal_ss, V.str.injEq, tSeq, tNext, tRet, tRetN, tIfS, tAsg, gName, tDrop, tVar, tC, tOp, tUn, rI, rI0, rU, rEq, rNe, tTest, tB, tNot, tAnd, tOr, tAndV, tOrV, tNotV, tIf, tCB, tCall, tNil, tCons, tTup, tLst, gTup, gCons, gNil, L2.start, rIsi, rIxT, rIxL, cx_K, tyN_non, tyN_bl, tyN_int, tyN_str, isi_ii, isi_ib, isi_it, isi_il, isi_bi, isi_bb, isi_tt, isi_ni, isi_si, isi_ti, isi_li, isi_di, isi_ll, scal_ii, scal_bb, sz0, sz1, sz2, sz3, sz4, List.map_cons, List.map_nil, List.length_cons, List.length_nil, List.replicate, List.cons_append, List.nil_append, List.append_nil, List.getElem?_cons_zero, List.getElem?_cons_succ, List.set_cons_zero, List.set_cons_succ, Option.some.injEq, V.int.injEq, V.bl.injEq, V.ref.injEq, V.ty.injEq, List.cons.injEq, and_true, true_and, exists_eq_left, exists_eq_left', exists_and_left, exists_and_right, exists_eq, exists_eq', and_assoc, Nat.reduceAdd, Nat.reduceSub, Bool.not_true, Bool.not_false, Bool.false_eq_true, if_true, if_false, reduceIte, Nat.zero_add, decide_true, decide_false, selC, comp_K, tYes, Option.join_some, rIxTH, rIxLH, rLenH, rIsiF, at0, at1, at2, at3, at4, at5, at6, at7, at8, HO.tup.injEq, HO.lst.injEq, reduceCtorEq, false_or, or_false, tyF_non, tyF_bl, tyF_int, tyF_str, exists_const, Int.reduceAdd, Int.reduceMul, Int.reduceSub, gSub, rSetL, tSl, tPart, tNoPart, rSlH, upd_same, upd_upd, rIntB, rListH, tBM, tBM0, rAppend, rClear, tPar, gTupH]
  refine ⟨by decide, by decide, for_range (n := Int.toNat 5) (fun _ σ H' => Same H H' ∧ ∃ o, σ = [some (.ref a0), some (.str tx), o, none, none, none]) ⟨g15, none, rfl⟩ ?_ ?_⟩
  · rintro j σ H6 hj ⟨g6, o, rfl⟩
    simp only [sp_cell, iStr, rSplit, rStarts, rIntT, rSlS, rMulS, rAll, rIxS, tyV_s, scal_ss, V.str.injEq, tSeq, tNext, tRet, tRetN, tIfS, tAsg, gName, tDrop, tVar, tC, tOp, tUn, rI, rI0, rU, rEq, rNe, tTest, tB, tNot, tAnd, tOr, tAndV, tOrV, tNotV, tIf, tCB, tCall, tNil, tCons, tTup, tLst, gTup, gCons, gNil, L2.start, rIsi, rIxT, rIxL, cx_K, tyN_non, tyN_bl, tyN_int, tyN_str, isi_ii, isi_ib, isi_it, isi_il, isi_bi, isi_bb, isi_tt, isi_ni, isi_si, isi_ti, isi_li, isi_di, isi_ll, scal_ii, scal_bb, sz0, sz1, sz2, sz3, sz4, List.map_cons, List.map_nil, List.length_cons, List.length_nil, List.replicate, List.cons_append, List.nil_append, List.append_nil, List.getElem?_cons_zero, List.getElem?_cons_succ, List.set_cons_zero, List.set_cons_succ, Option.some.injEq, V.int.injEq, V.bl.injEq, V.ref.injEq, V.ty.injEq, List.cons.injEq, and_true, true_and, exists_eq_left, exists_eq_left', exists_and_left, exists_and_right, exists_eq, exists_eq', and_assoc, Nat.reduceAdd, Nat.reduceSub, Bool.not_true, Bool.not_false, Bool.false_eq_true, if_true, if_false, reduceIte, Nat.zero_add, decide_true, decide_false, selC, comp_K, tYes, Option.join_some, rIxTH, rIxLH, rLenH, rIsiF, at0, at1, at2, at3, at4, at5, at6, at7, at8, HO.tup.injEq, HO.lst.injEq, reduceCtorEq, false_or, or_false, tyF_non, tyF_bl, tyF_int, tyF_str, exists_const, Int.reduceAdd, Int.reduceMul, Int.reduceSub, gSub, rSetL, tSl, tPart, tNoPart, rSlH, upd_same, upd_upd, rIntB, rListH, tBM, tBM0, rAppend, rClear, tPar, gTupH, Int.zero_add]
    have c1 := c0 (ns.getD (3 + (j : Int)).toNat 0)
    exact ⟨ns, g6.seq hS, by omega, _, _, rfl, by omega, by omega, fun y hy => ⟨y, rfl, hy, fun H7 g7 => ⟨_, rfl, iteF (g6.trans g7)⟩⟩⟩
  · rintro σ H6 ⟨g6, o, rfl⟩
    simp only [sp_cell, iStr, rSplit, rStarts, rIntT, rSlS, rMulS, rAll, rIxS, tyV_s, scal_ss, V.str.injEq, tSeq, tNext, tRet, tRetN, tIfS, tAsg, gName, tDrop, tVar, tC, tOp, tUn, rI, rI0, rU, rEq, rNe, tTest, tB, tNot, tAnd, tOr, tAndV, tOrV, tNotV, tIf, tCB, tCall, tNil, tCons, tTup, tLst, gTup, gCons, gNil, L2.start, rIsi, rIxT, rIxL, cx_K, tyN_non, tyN_bl, tyN_int, tyN_str, isi_ii, isi_ib, isi_it, isi_il, isi_bi, isi_bb, isi_tt, isi_ni, isi_si, isi_ti, isi_li, isi_di, isi_ll, scal_ii, scal_bb, sz0, sz1, sz2, sz3, sz4, List.map_cons, List.map_nil, List.length_cons, List.length_nil, List.replicate, List.cons_append, List.nil_append, List.append_nil, List.getElem?_cons_zero, List.getElem?_cons_succ, List.set_cons_zero, List.set_cons_succ, Option.some.injEq, V.int.injEq, V.bl.injEq, V.ref.injEq, V.ty.injEq, List.cons.injEq, and_true, true_and, exists_eq_left, exists_eq_left', exists_and_left, exists_and_right, exists_eq, exists_eq', and_assoc, Nat.reduceAdd, Nat.reduceSub, Bool.not_true, Bool.not_false, Bool.false_eq_true, if_true, if_false, reduceIte, Nat.zero_add, decide_true, decide_false, selC, comp_K, tYes, Option.join_some, rIxTH, rIxLH, rLenH, rIsiF, at0, at1, at2, at3, at4, at5, at6, at7, at8, HO.tup.injEq, HO.lst.injEq, reduceCtorEq, false_or, or_false, tyF_non, tyF_bl, tyF_int, tyF_str, exists_const, Int.reduceAdd, Int.reduceMul, Int.reduceSub, gSub, rSetL, tSl, tPart, tNoPart, rSlH, upd_same, upd_upd, rIntB, rListH, tBM, tBM0, rAppend, rClear, tPar, gTupH]
    refine .inl ⟨_, _, rfl, tyF_int, isi_is, fun H7 g7 => ⟨rfl, ?_⟩⟩
    rw [decide_eq_true rfl]
    refine iteF (.inl ⟨_, _, rfl, tyF_non, isi_ns, fun H8 g8 => ⟨rfl, ?_⟩⟩)
    rw [decide_eq_true rfl]
    refine iteF ⟨_, rfl, by omega, fun H9 g9 => ⟨_, rfl, iteF ?_⟩⟩
    have gg := g6.trans (g7.trans (g8.trans g9))
    refine ⟨ns, gg.seq hS, by decide, _, rfl, c0 _, fun x4 H10 l4 g10 => ⟨x4, rfl, by omega, ?_⟩⟩
    have fin : ∀ (u : Str) (H' : Hp), ∃ x_1, tyF H' (.str u) = some x_1 ∧ if isiB x_1 "str" = true then scal (.str u) (.str u) = true ∧ Q (.bl (decide (V.str u = V.str u))) H' else Q (.bl false) H' := by
      intro u H'
      refine ⟨"str", rfl, ?_⟩
      rw [isi_ss, decide_eq_true rfl]
      exact iteT ⟨rfl, k _⟩
    cases e : numV x4 with
    | none =>
      refine .inl ⟨rfl, fun H11 g11 => iteT fun p hp => ⟨by decide, iteT ⟨sz_of (by decide +kernel), by decide, sz_of (by decide +kernel), p, -1, 2, rfl, upd_same, by decide, by decide, ?_⟩⟩⟩
      exact fin _ _
    | some tu =>
      obtain ⟨t, u⟩ := tu
      obtain ⟨lt, lu, hu⟩ := num_facts e
      refine .inr ⟨_, _, rfl, fun p H11 g11 hp => ?_⟩
      simp only [iStr, rSplit, rStarts, rIntT, rSlS, rMulS, rAll, rIxS, tyV_s, scal_ss, V.str.injEq, tSeq, tNext, tRet, tRetN, tIfS, tAsg, gName, tDrop, tVar, tC, tOp, tUn, rI, rI0, rU, rEq, rNe, tTest, tB, tNot, tAnd, tOr, tAndV, tOrV, tNotV, tIf, tCB, tCall, tNil, tCons, tTup, tLst, gTup, gCons, gNil, L2.start, rIsi, rIxT, rIxL, cx_K, tyN_non, tyN_bl, tyN_int, tyN_str, isi_ii, isi_ib, isi_it, isi_il, isi_bi, isi_bb, isi_tt, isi_ni, isi_si, isi_ti, isi_li, isi_di, isi_ll, scal_ii, scal_bb, sz0, sz1, sz2, sz3, sz4, List.map_cons, List.map_nil, List.length_cons, List.length_nil, List.replicate, List.cons_append, List.nil_append, List.append_nil, List.getElem?_cons_zero, List.getElem?_cons_succ, List.set_cons_zero, List.set_cons_succ, Option.some.injEq, V.int.injEq, V.bl.injEq, V.ref.injEq, V.ty.injEq, List.cons.injEq, and_true, true_and, exists_eq_left, exists_eq_left', exists_and_left, exists_and_right, exists_eq, exists_eq', and_assoc, Nat.reduceAdd, Nat.reduceSub, Bool.not_true, Bool.not_false, Bool.false_eq_true, if_true, if_false, reduceIte, Nat.zero_add, decide_true, decide_false, selC, comp_K, tYes, Option.join_some, rIxTH, rIxLH, rLenH, rIsiF, at0, at1, at2, at3, at4, at5, at6, at7, at8, HO.tup.injEq, HO.lst.injEq, reduceCtorEq, false_or, or_false, tyF_non, tyF_bl, tyF_int, tyF_str, exists_const, Int.reduceAdd, Int.reduceMul, Int.reduceSub, gSub, rSetL, tSl, tPart, tNoPart, rSlH, upd_same, upd_upd, rIntB, rListH, tBM, tBM0, rAppend, rClear, tPar, gTupH, hp]
      have m1 := len_int2 lt
      have m2 := len_int2 lu
      refine ⟨log_of (lt5 lt), ite2 (fun c => ⟨sz_of (by rw [len_sl]; omega), log_of (lt5 lu), sz_of (by rw [Str.length_append, len_sl]; omega), p, t, u, rfl, hp, lt, lu, ?_⟩) (fun c => ⟨p, t, u, rfl, hp, lt, lu, ?_⟩)⟩
      · have c := of_decide_eq_true c
        unfold showV
        rw [if_neg (by omega)]
        exact fin _ _
      · have c : ¬ 1 < u := fun z => c (decide_eq_true z)
        unfold showV
        rw [if_pos (by omega)]
        exact fin _ _
end
theorem all_mk {l : PySem.W.OpenLaw} {w : World} {K : PySem.W.Frag} {h : Heap} {mg : Str → Option Value} {fa f0 f1 f2 f3 f4 f5 f6 f7 f8 f9 f10 f11 f12 f13 f14 f15 f16 f17 f18 f19 f20 f21 f22 e0 e1 e2 e3 e4 e5 e6 : Addr} (X : K.In h) (G : h.Ns mainGlobals mg) (hfa : mg "law" = some (.ref fa))
    {od0 an0 : Option Addr} {sl0 : Array (Option Value)} {oc0 kV0 dc0 pm0 cd0 ct0 : Value}
    {od1 an1 : Option Addr} {sl1 : Array (Option Value)} {oc1 kV1 dc1 pm1 cd1 ct1 : Value}
    {od2 an2 : Option Addr} {sl2 : Array (Option Value)} {oc2 kV2 dc2 pm2 cd2 ct2 : Value}
    {od3 an3 : Option Addr} {sl3 : Array (Option Value)} {oc3 kV3 dc3 pm3 cd3 ct3 : Value}
    {od4 an4 : Option Addr} {sl4 : Array (Option Value)} {oc4 kV4 dc4 pm4 cd4 ct4 : Value}
    {od5 an5 : Option Addr} {sl5 : Array (Option Value)} {oc5 kV5 dc5 pm5 cd5 ct5 : Value}
    {od6 an6 : Option Addr} {sl6 : Array (Option Value)} {oc6 kV6 dc6 pm6 cd6 ct6 : Value}
    {od7 an7 : Option Addr} {sl7 : Array (Option Value)} {oc7 kV7 dc7 pm7 cd7 ct7 : Value}
    {od8 an8 : Option Addr} {sl8 : Array (Option Value)} {oc8 kV8 dc8 pm8 cd8 ct8 : Value}
    {od9 an9 : Option Addr} {sl9 : Array (Option Value)} {oc9 kV9 dc9 pm9 cd9 ct9 : Value}
    {od10 an10 : Option Addr} {sl10 : Array (Option Value)} {oc10 kV10 dc10 pm10 cd10 ct10 : Value}
    {od11 an11 : Option Addr} {sl11 : Array (Option Value)} {oc11 kV11 dc11 pm11 cd11 ct11 : Value}
    {od12 an12 : Option Addr} {sl12 : Array (Option Value)} {oc12 kV12 dc12 pm12 cd12 ct12 : Value}
    {od13 an13 : Option Addr} {sl13 : Array (Option Value)} {oc13 kV13 dc13 pm13 cd13 ct13 : Value}
    {od14 an14 : Option Addr} {sl14 : Array (Option Value)} {oc14 kV14 dc14 pm14 cd14 ct14 : Value}
    {od15 an15 : Option Addr} {sl15 : Array (Option Value)} {oc15 kV15 dc15 pm15 cd15 ct15 : Value}
    {od16 an16 : Option Addr} {sl16 : Array (Option Value)} {oc16 kV16 dc16 pm16 cd16 ct16 : Value}
    {od17 an17 : Option Addr} {sl17 : Array (Option Value)} {oc17 kV17 dc17 pm17 cd17 ct17 : Value}
    {od18 an18 : Option Addr} {sl18 : Array (Option Value)} {oc18 kV18 dc18 pm18 cd18 ct18 : Value}
    {od19 an19 : Option Addr} {sl19 : Array (Option Value)} {oc19 kV19 dc19 pm19 cd19 ct19 : Value}
    {od20 an20 : Option Addr} {sl20 : Array (Option Value)} {oc20 kV20 dc20 pm20 cd20 ct20 : Value}
    {od21 an21 : Option Addr} {sl21 : Array (Option Value)} {oc21 kV21 dc21 pm21 cd21 ct21 : Value}
    {od22 an22 : Option Addr} {sl22 : Array (Option Value)} {oc22 kV22 dc22 pm22 cd22 ct22 : Value}
    {t_MOST_FIGURES : Tok}
    {t_FIGURES : Tok}
    (a0 : PySem.W.nsIn K mainGlobals "is_whole" = some (some (.ref f0))) (l0 : K.lookup f0 = some ⟨oc0, od0, .func (PySem.W.fnOf "is_whole" "is_whole" (defArgs s_is_whole) (defBody s_is_whole) (defScope s_is_whole) .none kV0 dc0 pm0 an0 cd0 ct0), sl0⟩) (c0 : PySem.W.codeIn K cd0 "is_whole" = true) (k0 : PySem.W.keepIn K (.ref f0) = true)
    (a1 : PySem.W.nsIn K mainGlobals "divisor" = some (some (.ref f1))) (l1 : K.lookup f1 = some ⟨oc1, od1, .func (PySem.W.fnOf "divisor" "divisor" (defArgs s_divisor) (defBody s_divisor) (defScope s_divisor) .none kV1 dc1 pm1 an1 cd1 ct1), sl1⟩) (c1 : PySem.W.codeIn K cd1 "divisor" = true) (k1 : PySem.W.keepIn K (.ref f1) = true)
    (a2 : PySem.W.nsIn K mainGlobals "point" = some (some (.ref f2))) (l2 : K.lookup f2 = some ⟨oc2, od2, .func (PySem.W.fnOf "point" "point" (defArgs s_point) (defBody s_point) (defScope s_point) .none kV2 dc2 pm2 an2 cd2 ct2), sl2⟩) (c2 : PySem.W.codeIn K cd2 "point" = true) (k2 : PySem.W.keepIn K (.ref f2) = true)
    (a3 : PySem.W.nsIn K mainGlobals "read_point" = some (some (.ref f3))) (l3 : K.lookup f3 = some ⟨oc3, od3, .func (PySem.W.fnOf "read_point" "read_point" (defArgs s_read_point) (defBody s_read_point) (defScope s_read_point) .none kV3 dc3 pm3 an3 cd3 ct3), sl3⟩) (c3 : PySem.W.codeIn K cd3 "read_point" = true) (k3 : PySem.W.keepIn K (.ref f3) = true)
    (a4 : PySem.W.nsIn K mainGlobals "read_number" = some (some (.ref f4))) (l4 : K.lookup f4 = some ⟨oc4, od4, .func (PySem.W.fnOf "read_number" "read_number" (defArgs s_read_number) (defBody s_read_number) (defScope s_read_number) .none kV4 dc4 pm4 an4 cd4 ct4), sl4⟩) (c4 : PySem.W.codeIn K cd4 "read_number" = true) (k4 : PySem.W.keepIn K (.ref f4) = true)
    (a5 : PySem.W.nsIn K mainGlobals "read_whole" = some (some (.ref f5))) (l5 : K.lookup f5 = some ⟨oc5, od5, .func (PySem.W.fnOf "read_whole" "read_whole" (defArgs s_read_whole) (defBody s_read_whole) (defScope s_read_whole) .none kV5 dc5 pm5 an5 cd5 ct5), sl5⟩) (c5 : PySem.W.codeIn K cd5 "read_whole" = true) (k5 : PySem.W.keepIn K (.ref f5) = true)
    (a6 : PySem.W.nsIn K mainGlobals "is_row_of_figures" = some (some (.ref f6))) (l6 : K.lookup f6 = some ⟨oc6, od6, .func (PySem.W.fnOf "is_row_of_figures" "is_row_of_figures" (defArgs s_is_row_of_figures) (defBody s_is_row_of_figures) (defScope s_is_row_of_figures) .none kV6 dc6 pm6 an6 cd6 ct6), sl6⟩) (c6 : PySem.W.codeIn K cd6 "is_row_of_figures" = true) (k6 : PySem.W.keepIn K (.ref f6) = true)
    (a7 : PySem.W.nsIn K mainGlobals "show_fraction" = some (some (.ref f7))) (l7 : K.lookup f7 = some ⟨oc7, od7, .func (PySem.W.fnOf "show_fraction" "show_fraction" (defArgs s_show_fraction) (defBody s_show_fraction) (defScope s_show_fraction) .none kV7 dc7 pm7 an7 cd7 ct7), sl7⟩) (c7 : PySem.W.codeIn K cd7 "show_fraction" = true) (k7 : PySem.W.keepIn K (.ref f7) = true)
    (a8 : PySem.W.nsIn K mainGlobals "_law_cell_at" = some (some (.ref f8))) (l8 : K.lookup f8 = some ⟨oc8, od8, .func (PySem.W.fnOf "_law_cell_at" "_law_cell_at" (defArgs s_law_cell_at) (defBody s_law_cell_at) (defScope s_law_cell_at) .none kV8 dc8 pm8 an8 cd8 ct8), sl8⟩) (c8 : PySem.W.codeIn K cd8 "_law_cell_at" = true) (k8 : PySem.W.keepIn K (.ref f8) = true)
    (a9 : PySem.W.nsIn K mainGlobals "_law_whole" = some (some (.ref f9))) (l9 : K.lookup f9 = some ⟨oc9, od9, .func (PySem.W.fnOf "_law_whole" "_law_whole" (defArgs s_law_whole) (defBody s_law_whole) (defScope s_law_whole) .none kV9 dc9 pm9 an9 cd9 ct9), sl9⟩) (c9 : PySem.W.codeIn K cd9 "_law_whole" = true) (k9 : PySem.W.keepIn K (.ref f9) = true)
    (a10 : PySem.W.nsIn K mainGlobals "_law_alike" = some (some (.ref f10))) (l10 : K.lookup f10 = some ⟨oc10, od10, .func (PySem.W.fnOf "_law_alike" "_law_alike" (defArgs s_law_alike) (defBody s_law_alike) (defScope s_law_alike) .none kV10 dc10 pm10 an10 cd10 ct10), sl10⟩) (c10 : PySem.W.codeIn K cd10 "_law_alike" = true) (k10 : PySem.W.keepIn K (.ref f10) = true)
    (a11 : PySem.W.nsIn K mainGlobals "_law_figures" = some (some (.ref f11))) (l11 : K.lookup f11 = some ⟨oc11, od11, .func (PySem.W.fnOf "_law_figures" "_law_figures" (defArgs s_law_figures) (defBody s_law_figures) (defScope s_law_figures) .none kV11 dc11 pm11 an11 cd11 ct11), sl11⟩) (c11 : PySem.W.codeIn K cd11 "_law_figures" = true) (k11 : PySem.W.keepIn K (.ref f11) = true)
    (a12 : PySem.W.nsIn K mainGlobals "_law_divisor" = some (some (.ref f12))) (l12 : K.lookup f12 = some ⟨oc12, od12, .func (PySem.W.fnOf "_law_divisor" "_law_divisor" (defArgs s_law_divisor) (defBody s_law_divisor) (defScope s_law_divisor) .none kV12 dc12 pm12 an12 cd12 ct12), sl12⟩) (c12 : PySem.W.codeIn K cd12 "_law_divisor" = true) (k12 : PySem.W.keepIn K (.ref f12) = true)
    (a13 : PySem.W.nsIn K mainGlobals "_law_number" = some (some (.ref f13))) (l13 : K.lookup f13 = some ⟨oc13, od13, .func (PySem.W.fnOf "_law_number" "_law_number" (defArgs s_law_number) (defBody s_law_number) (defScope s_law_number) .none kV13 dc13 pm13 an13 cd13 ct13), sl13⟩) (c13 : PySem.W.codeIn K cd13 "_law_number" = true) (k13 : PySem.W.keepIn K (.ref f13) = true)
    (a14 : PySem.W.nsIn K mainGlobals "_law_point" = some (some (.ref f14))) (l14 : K.lookup f14 = some ⟨oc14, od14, .func (PySem.W.fnOf "_law_point" "_law_point" (defArgs s_law_point) (defBody s_law_point) (defScope s_law_point) .none kV14 dc14 pm14 an14 cd14 ct14), sl14⟩) (c14 : PySem.W.codeIn K cd14 "_law_point" = true) (k14 : PySem.W.keepIn K (.ref f14) = true)
    (a15 : PySem.W.nsIn K mainGlobals "_law_bound" = some (some (.ref f15))) (l15 : K.lookup f15 = some ⟨oc15, od15, .func (PySem.W.fnOf "_law_bound" "_law_bound" (defArgs s_law_bound) (defBody s_law_bound) (defScope s_law_bound) .none kV15 dc15 pm15 an15 cd15 ct15), sl15⟩) (c15 : PySem.W.codeIn K cd15 "_law_bound" = true) (k15 : PySem.W.keepIn K (.ref f15) = true)
    (a16 : PySem.W.nsIn K mainGlobals "_law_size" = some (some (.ref f16))) (l16 : K.lookup f16 = some ⟨oc16, od16, .func (PySem.W.fnOf "_law_size" "_law_size" (defArgs s_law_size) (defBody s_law_size) (defScope s_law_size) .none kV16 dc16 pm16 an16 cd16 ct16), sl16⟩) (c16 : PySem.W.codeIn K cd16 "_law_size" = true) (k16 : PySem.W.keepIn K (.ref f16) = true)
    (a17 : PySem.W.nsIn K mainGlobals "_law_number_text" = some (some (.ref f17))) (l17 : K.lookup f17 = some ⟨oc17, od17, .func (PySem.W.fnOf "_law_number_text" "_law_number_text" (defArgs s_law_number_text) (defBody s_law_number_text) (defScope s_law_number_text) .none kV17 dc17 pm17 an17 cd17 ct17), sl17⟩) (c17 : PySem.W.codeIn K cd17 "_law_number_text" = true) (k17 : PySem.W.keepIn K (.ref f17) = true)
    (a18 : PySem.W.nsIn K mainGlobals "_law_spoilt" = some (some (.ref f18))) (l18 : K.lookup f18 = some ⟨oc18, od18, .func (PySem.W.fnOf "_law_spoilt" "_law_spoilt" (defArgs s_law_spoilt) (defBody s_law_spoilt) (defScope s_law_spoilt) .none kV18 dc18 pm18 an18 cd18 ct18), sl18⟩) (c18 : PySem.W.codeIn K cd18 "_law_spoilt" = true) (k18 : PySem.W.keepIn K (.ref f18) = true)
    (a19 : PySem.W.nsIn K mainGlobals "_law_odd" = some (some (.ref f19))) (l19 : K.lookup f19 = some ⟨oc19, od19, .func (PySem.W.fnOf "_law_odd" "_law_odd" (defArgs s_law_odd) (defBody s_law_odd) (defScope s_law_odd) .none kV19 dc19 pm19 an19 cd19 ct19), sl19⟩) (c19 : PySem.W.codeIn K cd19 "_law_odd" = true) (k19 : PySem.W.keepIn K (.ref f19) = true)
    (a20 : PySem.W.nsIn K mainGlobals "_law_read" = some (some (.ref f20))) (l20 : K.lookup f20 = some ⟨oc20, od20, .func (PySem.W.fnOf "_law_read" "_law_read" (defArgs s_law_read) (defBody s_law_read) (defScope s_law_read) .none kV20 dc20 pm20 an20 cd20 ct20), sl20⟩) (c20 : PySem.W.codeIn K cd20 "_law_read" = true) (k20 : PySem.W.keepIn K (.ref f20) = true)
    (a21 : PySem.W.nsIn K mainGlobals "_law_right" = some (some (.ref f21))) (l21 : K.lookup f21 = some ⟨oc21, od21, .func (PySem.W.fnOf "_law_right" "_law_right" (defArgs s_law_right) (defBody s_law_right) (defScope s_law_right) .none kV21 dc21 pm21 an21 cd21 ct21), sl21⟩) (c21 : PySem.W.codeIn K cd21 "_law_right" = true) (k21 : PySem.W.keepIn K (.ref f21) = true)
    (a22 : PySem.W.nsIn K mainGlobals "law" = some (some (.ref f22))) (l22 : K.lookup f22 = some ⟨oc22, od22, .func (PySem.W.fnOf "law" "law" (defArgs s_law) (defBody s_law) (defScope s_law) .none kV22 dc22 pm22 an22 cd22 ct22), sl22⟩) (c22 : PySem.W.codeIn K cd22 "law" = true) (k22 : PySem.W.keepIn K (.ref f22) = true)
    (z0 : PySem.W.nsIn K mainGlobals "ValueError" = some none)
    (z1 : PySem.W.nsIn K mainGlobals "abs" = some none)
    (z2 : PySem.W.nsIn K mainGlobals "all" = some none)
    (z3 : PySem.W.nsIn K mainGlobals "bool" = some none)
    (z4 : PySem.W.nsIn K mainGlobals "int" = some none)
    (z5 : PySem.W.nsIn K mainGlobals "isinstance" = some none)
    (z6 : PySem.W.nsIn K mainGlobals "len" = some none)
    (z7 : PySem.W.nsIn K mainGlobals "list" = some none)
    (z8 : PySem.W.nsIn K mainGlobals "range" = some none)
    (z9 : PySem.W.nsIn K mainGlobals "str" = some none)
    (z10 : PySem.W.nsIn K mainGlobals "tuple" = some none)
    (g_MOST_FIGURES : PySem.W.nsIn K mainGlobals "MOST_FIGURES" = some (some (.int 60 t_MOST_FIGURES)))
    (g_FIGURES : PySem.W.nsIn K mainGlobals "FIGURES" = some (some (.str "0123456789" t_FIGURES)))
    (x_AcreError : PySem.W.nsIn K mainGlobals "AcreError" = some (some (.ref e0)))
    (x_NoNumber : PySem.W.nsIn K mainGlobals "NoNumber" = some (some (.ref e1)))
    (x_NoPoint : PySem.W.nsIn K mainGlobals "NoPoint" = some (some (.ref e2)))
    (x_NoStretch : PySem.W.nsIn K mainGlobals "NoStretch" = some (some (.ref e3)))
    (x_NoName : PySem.W.nsIn K mainGlobals "NoName" = some (some (.ref e4)))
    (x_NoText : PySem.W.nsIn K mainGlobals "NoText" = some (some (.ref e5)))
    (x_NoRow : PySem.W.nsIn K mainGlobals "NoRow" = some (some (.ref e6)))
    (xc_NoText : PySem.W.excIn K e5 [.type "ValueError", .type "Exception", .type "BaseException", .type "object"] "ValueError.__new__" = true)
    (xi_NoText_ga : PySem.W.findIn K (.ref e5) "__getattribute__" = some (some (.builtin "BaseException.__getattribute__")))
    (xi_NoText_gn : PySem.W.findIn K (.ref e5) "__getattr__" = some none)
    (xi_NoText_cl : PySem.W.findIn K (.ref e5) "__class__" = some (some (.builtin "object.__class__")))
    (xi_NoText_get : PySem.W.specialIn K (.builtin "object.__class__") "__get__" = some (some (.builtin "getset_descriptor.__get__")))
    (xi_NoText_tk : PySem.W.takesIn K (.builtin "object.__class__") = some true)
    (xi_NoText_ob : PySem.W.mroIn K e5 (.type "object") = some true)
    (xi_NoText_be : PySem.W.mroIn K e5 (.type "BaseException") = some true)
    (is_NoText_NoName : PySem.W.kitOne K (.ref e5) (.ref e4) = some false)
    (is_NoText_NoRow : PySem.W.kitOne K (.ref e5) (.ref e6) = some false)
    (is_NoText_NoNumber : PySem.W.kitOne K (.ref e5) (.ref e1) = some false)
    (is_NoText_NoPoint : PySem.W.kitOne K (.ref e5) (.ref e2) = some false)
    (is_NoText_NoStretch : PySem.W.kitOne K (.ref e5) (.ref e3) = some false)
    (is_NoText_AcreError : PySem.W.kitOne K (.ref e5) (.ref e0) = some true)
    (is_NoText_ValueError : PySem.W.kitOne K (.ref e5) (.type "ValueError") = some true)
    (ex_NoText_NoText : PySem.W.exmOne K (.ref e5) (.ref e5) = some true)
    : ∃ fd : FuncData, (∀ (s : Shared) (v : Value), BindsTo s fd ⟨[v], []⟩ [("_law_script", v)]) ∧ ∀ base : Heap, K.In base → base.Ns mainGlobals mg → FnOk l.prog w K mg base CX0 7 fa fd ["_law_script"] (sp_law K) := by
  have e := hfa.symm.trans (PySem.W.mg_of X G a22)
  cases e
  have F0 := fun_mk (st := s_is_whole) l0 c0 k0
  have b0 := F0.binds (ps := ["thing"]) fun _ _ _ _ _ _ us hl => match us, hl with | [_], _ => rfl
  have F1 := fun_mk (st := s_divisor) l1 c1 k1
  have b1 := F1.binds (ps := ["one", "other"]) fun _ _ _ _ _ _ us hl => match us, hl with | [_, _], _ => rfl
  have F2 := fun_mk (st := s_point) l2 c2 k2
  have b2 := F2.binds (ps := ["x", "y", "w"]) fun _ _ _ _ _ _ us hl => match us, hl with | [_, _, _], _ => rfl
  have F3 := fun_mk (st := s_read_point) l3 c3 k3
  have b3 := F3.binds (ps := ["text"]) fun _ _ _ _ _ _ us hl => match us, hl with | [_], _ => rfl
  have F4 := fun_mk (st := s_read_number) l4 c4 k4
  have b4 := F4.binds (ps := ["text"]) fun _ _ _ _ _ _ us hl => match us, hl with | [_], _ => rfl
  have F5 := fun_mk (st := s_read_whole) l5 c5 k5
  have b5 := F5.binds (ps := ["text"]) fun _ _ _ _ _ _ us hl => match us, hl with | [_], _ => rfl
  have F6 := fun_mk (st := s_is_row_of_figures) l6 c6 k6
  have b6 := F6.binds (ps := ["text"]) fun _ _ _ _ _ _ us hl => match us, hl with | [_], _ => rfl
  have F7 := fun_mk (st := s_show_fraction) l7 c7 k7
  have b7 := F7.binds (ps := ["one"]) fun _ _ _ _ _ _ us hl => match us, hl with | [_], _ => rfl
  have F8 := fun_mk (st := s_law_cell_at) l8 c8 k8
  have b8 := F8.binds (ps := ["_law_script", "_law_k"]) fun _ _ _ _ _ _ us hl => match us, hl with | [_, _], _ => rfl
  have F9 := fun_mk (st := s_law_whole) l9 c9 k9
  have b9 := F9.binds (ps := ["_law_found"]) fun _ _ _ _ _ _ us hl => match us, hl with | [_], _ => rfl
  have F10 := fun_mk (st := s_law_alike) l10 c10 k10
  have b10 := F10.binds (ps := ["_law_found", "_law_due"]) fun _ _ _ _ _ _ us hl => match us, hl with | [_, _], _ => rfl
  have F11 := fun_mk (st := s_law_figures) l11 c11 k11
  have b11 := F11.binds (ps := ["_law_text"]) fun _ _ _ _ _ _ us hl => match us, hl with | [_], _ => rfl
  have F12 := fun_mk (st := s_law_divisor) l12 c12 k12
  have b12 := F12.binds (ps := ["_law_one", "_law_other"]) fun _ _ _ _ _ _ us hl => match us, hl with | [_, _], _ => rfl
  have F13 := fun_mk (st := s_law_number) l13 c13 k13
  have b13 := F13.binds (ps := ["_law_text"]) fun _ _ _ _ _ _ us hl => match us, hl with | [_], _ => rfl
  have F14 := fun_mk (st := s_law_point) l14 c14 k14
  have b14 := F14.binds (ps := ["_law_text"]) fun _ _ _ _ _ _ us hl => match us, hl with | [_], _ => rfl
  have F15 := fun_mk (st := s_law_bound) l15 c15 k15
  have b15 := F15.binds (ps := ["_law_cell"]) fun _ _ _ _ _ _ us hl => match us, hl with | [_], _ => rfl
  have F16 := fun_mk (st := s_law_size) l16 c16 k16
  have b16 := F16.binds (ps := ["_law_cell"]) fun _ _ _ _ _ _ us hl => match us, hl with | [_], _ => rfl
  have F17 := fun_mk (st := s_law_number_text) l17 c17 k17
  have b17 := F17.binds (ps := ["_law_cell"]) fun _ _ _ _ _ _ us hl => match us, hl with | [_], _ => rfl
  have F18 := fun_mk (st := s_law_spoilt) l18 c18 k18
  have b18 := F18.binds (ps := ["_law_text", "_law_cell"]) fun _ _ _ _ _ _ us hl => match us, hl with | [_, _], _ => rfl
  have F19 := fun_mk (st := s_law_odd) l19 c19 k19
  have b19 := F19.binds (ps := ["_law_cell"]) fun _ _ _ _ _ _ us hl => match us, hl with | [_], _ => rfl
  have F20 := fun_mk (st := s_law_read) l20 c20 k20
  have b20 := F20.binds (ps := ["_law_text"]) fun _ _ _ _ _ _ us hl => match us, hl with | [_], _ => rfl
  have F21 := fun_mk (st := s_law_right) l21 c21 k21
  have b21 := F21.binds (ps := ["_law_text"]) fun _ _ _ _ _ _ us hl => match us, hl with | [_], _ => rfl
  have F22 := fun_mk (st := s_law) l22 c22 k22
  have b22 := F22.binds (ps := ["_law_script"]) fun _ _ _ _ _ _ us hl => match us, hl with | [_], _ => rfl
  have T : Txt K mg (fun n => [f0, f1, f2, f3, f4, f5, f6, f7, f8, f9, f10, f11, f12, f13, f14, f15, f16, f17, f18, f19, f20, f21, fa].getD n 0) (fun n => [PySem.W.fnOf "is_whole" "is_whole" (defArgs s_is_whole) (defBody s_is_whole) (defScope s_is_whole) .none kV0 dc0 pm0 an0 cd0 ct0, PySem.W.fnOf "divisor" "divisor" (defArgs s_divisor) (defBody s_divisor) (defScope s_divisor) .none kV1 dc1 pm1 an1 cd1 ct1, PySem.W.fnOf "point" "point" (defArgs s_point) (defBody s_point) (defScope s_point) .none kV2 dc2 pm2 an2 cd2 ct2, PySem.W.fnOf "read_point" "read_point" (defArgs s_read_point) (defBody s_read_point) (defScope s_read_point) .none kV3 dc3 pm3 an3 cd3 ct3, PySem.W.fnOf "read_number" "read_number" (defArgs s_read_number) (defBody s_read_number) (defScope s_read_number) .none kV4 dc4 pm4 an4 cd4 ct4, PySem.W.fnOf "read_whole" "read_whole" (defArgs s_read_whole) (defBody s_read_whole) (defScope s_read_whole) .none kV5 dc5 pm5 an5 cd5 ct5, PySem.W.fnOf "is_row_of_figures" "is_row_of_figures" (defArgs s_is_row_of_figures) (defBody s_is_row_of_figures) (defScope s_is_row_of_figures) .none kV6 dc6 pm6 an6 cd6 ct6, PySem.W.fnOf "show_fraction" "show_fraction" (defArgs s_show_fraction) (defBody s_show_fraction) (defScope s_show_fraction) .none kV7 dc7 pm7 an7 cd7 ct7, PySem.W.fnOf "_law_cell_at" "_law_cell_at" (defArgs s_law_cell_at) (defBody s_law_cell_at) (defScope s_law_cell_at) .none kV8 dc8 pm8 an8 cd8 ct8, PySem.W.fnOf "_law_whole" "_law_whole" (defArgs s_law_whole) (defBody s_law_whole) (defScope s_law_whole) .none kV9 dc9 pm9 an9 cd9 ct9, PySem.W.fnOf "_law_alike" "_law_alike" (defArgs s_law_alike) (defBody s_law_alike) (defScope s_law_alike) .none kV10 dc10 pm10 an10 cd10 ct10, PySem.W.fnOf "_law_figures" "_law_figures" (defArgs s_law_figures) (defBody s_law_figures) (defScope s_law_figures) .none kV11 dc11 pm11 an11 cd11 ct11, PySem.W.fnOf "_law_divisor" "_law_divisor" (defArgs s_law_divisor) (defBody s_law_divisor) (defScope s_law_divisor) .none kV12 dc12 pm12 an12 cd12 ct12, PySem.W.fnOf "_law_number" "_law_number" (defArgs s_law_number) (defBody s_law_number) (defScope s_law_number) .none kV13 dc13 pm13 an13 cd13 ct13, PySem.W.fnOf "_law_point" "_law_point" (defArgs s_law_point) (defBody s_law_point) (defScope s_law_point) .none kV14 dc14 pm14 an14 cd14 ct14, PySem.W.fnOf "_law_bound" "_law_bound" (defArgs s_law_bound) (defBody s_law_bound) (defScope s_law_bound) .none kV15 dc15 pm15 an15 cd15 ct15, PySem.W.fnOf "_law_size" "_law_size" (defArgs s_law_size) (defBody s_law_size) (defScope s_law_size) .none kV16 dc16 pm16 an16 cd16 ct16, PySem.W.fnOf "_law_number_text" "_law_number_text" (defArgs s_law_number_text) (defBody s_law_number_text) (defScope s_law_number_text) .none kV17 dc17 pm17 an17 cd17 ct17, PySem.W.fnOf "_law_spoilt" "_law_spoilt" (defArgs s_law_spoilt) (defBody s_law_spoilt) (defScope s_law_spoilt) .none kV18 dc18 pm18 an18 cd18 ct18, PySem.W.fnOf "_law_odd" "_law_odd" (defArgs s_law_odd) (defBody s_law_odd) (defScope s_law_odd) .none kV19 dc19 pm19 an19 cd19 ct19, PySem.W.fnOf "_law_read" "_law_read" (defArgs s_law_read) (defBody s_law_read) (defScope s_law_read) .none kV20 dc20 pm20 an20 cd20 ct20, PySem.W.fnOf "_law_right" "_law_right" (defArgs s_law_right) (defBody s_law_right) (defScope s_law_right) .none kV21 dc21 pm21 an21 cd21 ct21, PySem.W.fnOf "law" "law" (defArgs s_law) (defBody s_law) (defScope s_law) .none kV22 dc22 pm22 an22 cd22 ct22].getD n (PySem.W.fnOf "is_whole" "is_whole" (defArgs s_is_whole) (defBody s_is_whole) (defScope s_is_whole) .none kV0 dc0 pm0 an0 cd0 ct0)) (fun n => [e0, e1, e2, e3, e4, e5, e6].getD n 0) :=
    ⟨⟨F0, b0, PySem.W.mg_of X G a0⟩, ⟨F1, b1, PySem.W.mg_of X G a1⟩, ⟨F2, b2, PySem.W.mg_of X G a2⟩, ⟨F3, b3, PySem.W.mg_of X G a3⟩, ⟨F4, b4, PySem.W.mg_of X G a4⟩, ⟨F5, b5, PySem.W.mg_of X G a5⟩, ⟨F6, b6, PySem.W.mg_of X G a6⟩, ⟨F7, b7, PySem.W.mg_of X G a7⟩, ⟨F8, b8, PySem.W.mg_of X G a8⟩, ⟨F9, b9, PySem.W.mg_of X G a9⟩, ⟨F10, b10, PySem.W.mg_of X G a10⟩, ⟨F11, b11, PySem.W.mg_of X G a11⟩, ⟨F12, b12, PySem.W.mg_of X G a12⟩, ⟨F13, b13, PySem.W.mg_of X G a13⟩, ⟨F14, b14, PySem.W.mg_of X G a14⟩, ⟨F15, b15, PySem.W.mg_of X G a15⟩, ⟨F16, b16, PySem.W.mg_of X G a16⟩, ⟨F17, b17, PySem.W.mg_of X G a17⟩, ⟨F18, b18, PySem.W.mg_of X G a18⟩, ⟨F19, b19, PySem.W.mg_of X G a19⟩, ⟨F20, b20, PySem.W.mg_of X G a20⟩, ⟨F21, b21, PySem.W.mg_of X G a21⟩, ⟨F22, b22, PySem.W.mg_of X G a22⟩, PySem.W.mg_none_of X G z0, PySem.W.mg_none_of X G z1, PySem.W.mg_none_of X G z2, PySem.W.mg_none_of X G z3, PySem.W.mg_none_of X G z4, PySem.W.mg_none_of X G z5, PySem.W.mg_none_of X G z6, PySem.W.mg_none_of X G z7, PySem.W.mg_none_of X G z8, PySem.W.mg_none_of X G z9, PySem.W.mg_none_of X G z10, ⟨_, PySem.W.mg_of X G g_MOST_FIGURES⟩, ⟨_, PySem.W.mg_of X G g_FIGURES⟩, PySem.W.mg_of X G x_AcreError, PySem.W.mg_of X G x_NoNumber, PySem.W.mg_of X G x_NoPoint, PySem.W.mg_of X G x_NoStretch, PySem.W.mg_of X G x_NoName, PySem.W.mg_of X G x_NoText, PySem.W.mg_of X G x_NoRow, ⟨xc_NoText⟩, ⟨xi_NoText_ga, xi_NoText_gn, xi_NoText_cl, xi_NoText_get, xi_NoText_tk, xi_NoText_ob, xi_NoText_be⟩, is_NoText_NoName, is_NoText_NoRow, is_NoText_NoNumber, is_NoText_NoPoint, is_NoText_NoStretch, is_NoText_AcreError, is_NoText_ValueError, ex_NoText_NoText⟩
  exact ⟨PySem.W.fnOf "law" "law" (defArgs s_law) (defBody s_law) (defScope s_law) .none kV22 dc22 pm22 an22 cd22 ct22, fun s v => .of_eq rfl, fun base _ _ => ok_law T⟩
theorem walk {l : PySem.W.OpenLaw} {q : Program} {loose : List Str} {XP : (Str → Option Value) → Heap → Prop} {YP : World → Heap → Prop} {d : DefRec} {K : Params → PySem.W.Frag} (hn : l.most = some 63) (hdf : d.params.defaults = [])
    (hY : ∀ (w : World) (h : Heap), YP w h → (K w.params).In h)
    (F : ∀ (w : World) (mg : Str → Option Value) (fa : Addr) (h : Heap), (K w.params).In h → h.Ns mainGlobals mg → mg d.name = some (.ref fa) →
      ∃ fd : FuncData, (∀ (s : Shared) (u : Value), BindsTo s fd ⟨[u], []⟩ [("_law_script", u)]) ∧ ∀ base : Heap, (K w.params).In base → base.Ns mainGlobals mg → FnOk l.prog w (K w.params) mg base CX0 7 fa fd ["_law_script"] (sp_law (K w.params))) :
    PySem.W.WalkO q loose XP YP l.row.toRowW d [] (fun f vs => PySem.call f vs) :=
  L2.walk_of (n := 63) (k := 7) (x := "_law_script") (CX := fun _ => CX0) (sp := fun w => sp_law (K w.params)) hn (by decide) hdf ⟨rfl, by decide, by decide⟩ hY F (fun _ _ a ns hl _ hS => ⟨a, ns, rfl, hS, hl, fun _ => rfl⟩) fun _ _ _ _ _ z => z
end Mine
open PySem PySem.W PyProof.Rows
set_option maxRecDepth 100000 in
set_option maxHeartbeats 0 in
theorem PySem.Challenge.cw_acre_k71_numbers_and_points_holds : PySem.Challenge.rw_acre_k71_numbers_and_points.Holds := by
  w_on; o_law; k_head; (case hw => w_witness2)
  k_fill
  refine Mine.walk (l := PySem.Challenge.rw_acre_k71_numbers_and_points) rfl rfl (fun w h Y => PySem.W.kIn_of Y) ?F
  case F =>
    intro w mg fa h KX G hmg
    refine' Mine.all_mk KX G hmg ?a0 ?l0 ?c0 ?k0 ?a1 ?l1 ?c1 ?k1 ?a2 ?l2 ?c2 ?k2 ?a3 ?l3 ?c3 ?k3 ?a4 ?l4 ?c4 ?k4 ?a5 ?l5 ?c5 ?k5 ?a6 ?l6 ?c6 ?k6 ?a7 ?l7 ?c7 ?k7 ?a8 ?l8 ?c8 ?k8 ?a9 ?l9 ?c9 ?k9 ?a10 ?l10 ?c10 ?k10 ?a11 ?l11 ?c11 ?k11 ?a12 ?l12 ?c12 ?k12 ?a13 ?l13 ?c13 ?k13 ?a14 ?l14 ?c14 ?k14 ?a15 ?l15 ?c15 ?k15 ?a16 ?l16 ?c16 ?k16 ?a17 ?l17 ?c17 ?k17 ?a18 ?l18 ?c18 ?k18 ?a19 ?l19 ?c19 ?k19 ?a20 ?l20 ?c20 ?k20 ?a21 ?l21 ?c21 ?k21 ?a22 ?l22 ?c22 ?k22 ?z0 ?z1 ?z2 ?z3 ?z4 ?z5 ?z6 ?z7 ?z8 ?z9 ?z10 ?g_MOST_FIGURES ?g_FIGURES ?x_AcreError ?x_NoNumber ?x_NoPoint ?x_NoStretch ?x_NoName ?x_NoText ?x_NoRow ?xc_NoText ?xi_NoText_ga ?xi_NoText_gn ?xi_NoText_cl ?xi_NoText_get ?xi_NoText_tk ?xi_NoText_ob ?xi_NoText_be ?is_NoText_NoName ?is_NoText_NoRow ?is_NoText_NoNumber ?is_NoText_NoPoint ?is_NoText_NoStretch ?is_NoText_AcreError ?is_NoText_ValueError ?ex_NoText_NoText
    (case a0 => k_is)
    (case l0 => k_is)
    (case c0 => k_is)
    (case k0 => k_is)
    (case a1 => k_is)
    (case l1 => k_is)
    (case c1 => k_is)
    (case k1 => k_is)
    (case a2 => k_is)
    (case l2 => k_is)
    (case c2 => k_is)
    (case k2 => k_is)
    (case a3 => k_is)
    (case l3 => k_is)
    (case c3 => k_is)
    (case k3 => k_is)
    (case a4 => k_is)
    (case l4 => k_is)
    (case c4 => k_is)
    (case k4 => k_is)
    (case a5 => k_is)
    (case l5 => k_is)
    (case c5 => k_is)
    (case k5 => k_is)
    (case a6 => k_is)
    (case l6 => k_is)
    (case c6 => k_is)
    (case k6 => k_is)
    (case a7 => k_is)
    (case l7 => k_is)
    (case c7 => k_is)
    (case k7 => k_is)
    (case a8 => k_is)
    (case l8 => k_is)
    (case c8 => k_is)
    (case k8 => k_is)
    (case a9 => k_is)
    (case l9 => k_is)
    (case c9 => k_is)
    (case k9 => k_is)
    (case a10 => k_is)
    (case l10 => k_is)
    (case c10 => k_is)
    (case k10 => k_is)
    (case a11 => k_is)
    (case l11 => k_is)
    (case c11 => k_is)
    (case k11 => k_is)
    (case a12 => k_is)
    (case l12 => k_is)
    (case c12 => k_is)
    (case k12 => k_is)
    (case a13 => k_is)
    (case l13 => k_is)
    (case c13 => k_is)
    (case k13 => k_is)
    (case a14 => k_is)
    (case l14 => k_is)
    (case c14 => k_is)
    (case k14 => k_is)
    (case a15 => k_is)
    (case l15 => k_is)
    (case c15 => k_is)
    (case k15 => k_is)
    (case a16 => k_is)
    (case l16 => k_is)
    (case c16 => k_is)
    (case k16 => k_is)
    (case a17 => k_is)
    (case l17 => k_is)
    (case c17 => k_is)
    (case k17 => k_is)
    (case a18 => k_is)
    (case l18 => k_is)
    (case c18 => k_is)
    (case k18 => k_is)
    (case a19 => k_is)
    (case l19 => k_is)
    (case c19 => k_is)
    (case k19 => k_is)
    (case a20 => k_is)
    (case l20 => k_is)
    (case c20 => k_is)
    (case k20 => k_is)
    (case a21 => k_is)
    (case l21 => k_is)
    (case c21 => k_is)
    (case k21 => k_is)
    (case a22 => k_is)
    (case l22 => k_is)
    (case c22 => k_is)
    (case k22 => k_is)
    (case z0 => k_is)
    (case z1 => k_is)
    (case z2 => k_is)
    (case z3 => k_is)
    (case z4 => k_is)
    (case z5 => k_is)
    (case z6 => k_is)
    (case z7 => k_is)
    (case z8 => k_is)
    (case z9 => k_is)
    (case z10 => k_is)
    (case g_MOST_FIGURES => k_is)
    (case g_FIGURES => k_is)
    (case x_AcreError => k_is)
    (case x_NoNumber => k_is)
    (case x_NoPoint => k_is)
    (case x_NoStretch => k_is)
    (case x_NoName => k_is)
    (case x_NoText => k_is)
    (case x_NoRow => k_is)
    (case xc_NoText => k_exc)
    (case xi_NoText_ga => k_is)
    (case xi_NoText_gn => k_is)
    (case xi_NoText_cl => k_is)
    (case xi_NoText_get => k_is)
    (case xi_NoText_tk => k_is)
    (case xi_NoText_ob => k_is)
    (case xi_NoText_be => k_is)
    (case is_NoText_NoName => kit_is)
    (case is_NoText_NoRow => kit_is)
    (case is_NoText_NoNumber => kit_is)
    (case is_NoText_NoPoint => kit_is)
    (case is_NoText_NoStretch => kit_is)
    (case is_NoText_AcreError => kit_is)
    (case is_NoText_ValueError => kit_is)
    (case ex_NoText_NoText => kts_exm)
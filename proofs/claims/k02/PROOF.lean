import PyProof.Rows.All
import Wide.All
import OpenK.AllK
import Wide.FinOn
import Lean
import PyProof.EqAt
import PyProof.EqKinds
import PyProof.TupleCall
import PyProof.StrLawsRepr
import PySem.Challenge.RW_linkpay_k02_rows_refused
set_option Elab.async false
set_option linter.all false
set_option maxRecDepth 100000
set_option maxHeartbeats 4000000
namespace L2
open PySem PySem.Spec PyProof.Rows

/-- a key: an int or a str -/
abbrev Key := Sum Int Str
def keyIs : Key → Value → Bool
  | .inl k, v => Value.isInt k v
  | .inr x, v => Value.isStrOf x v
def keyH (w : World) : Key → Int
  | .inl k => hashInt k
  | .inr x => hashStr w x
theorem keyIs_shape : ∀ {k : Key} {v : Value}, keyIs k v = true → (∃ i t, k = Sum.inl i ∧ v = Value.int i t) ∨ (∃ x t, k = Sum.inr x ∧ v = Value.str x t)
  | .inl i, v, h => by
    obtain ⟨t, e⟩ := Value.isInt_shape (k := i) (v := v) h
    exact .inl ⟨i, t, rfl, e⟩
  | .inr x, v, h => by
    obtain ⟨t, e⟩ := Value.isStrOf_shape (x := x) (v := v) h
    exact .inr ⟨x, t, rfl, e⟩
theorem keyIs_int (i : Int) (t : Tok) : keyIs (.inl i) (.int i t) = true := by simp [keyIs, Value.isInt]
theorem keyIs_str (x : Str) (t : Tok) : keyIs (.inr x) (.str x t) = true := by simp [keyIs, Value.isStrOf]
theorem key_ll (a b : Int) : decide ((Sum.inl a : Key) = Sum.inl b) = (a == b) := by
  by_cases e : a = b
  · subst e; simp
  · have h : ¬ (Sum.inl a : Key) = Sum.inl b := fun q => e (Sum.inl.inj q)
    rw [decide_eq_false h]
    exact (beq_eq_false_iff_ne.mpr e).symm
theorem key_rr (a b : Str) : decide ((Sum.inr a : Key) = Sum.inr b) = decide (a = b) := by
  by_cases e : a = b
  · subst e; simp
  · have h : ¬ (Sum.inr a : Key) = Sum.inr b := fun q => e (Sum.inr.inj q)
    rw [decide_eq_false h, decide_eq_false e]
theorem key_lr (a : Int) (b : Str) : decide ((Sum.inl a : Key) = Sum.inr b) = false := decide_eq_false (fun q => nomatch q)
theorem key_rl (a : Str) (b : Int) : decide ((Sum.inr a : Key) = Sum.inl b) = false := decide_eq_false (fun q => nomatch q)

def mixKind (prog : Program) (w : World) : PySem.KeyKind prog w Key where
  is := keyIs
  hash := keyH w
  inj := fun v a b ha hb => by
    rcases keyIs_shape ha with ⟨i, t, rfl, rfl⟩ | ⟨x, t, rfl, rfl⟩
    · rcases keyIs_shape hb with ⟨j, u, rfl, e⟩ | ⟨y, u, rfl, e⟩
      · injection e with e1 _; rw [e1]
      · exact nomatch e
    · rcases keyIs_shape hb with ⟨j, u, rfl, e⟩ | ⟨y, u, rfl, e⟩
      · exact nomatch e
      · injection e with e1 _; rw [e1]
  byValue := fun k v h => by
    rcases keyIs_shape h with ⟨i, t, rfl, rfl⟩ | ⟨x, t, rfl, rfl⟩ <;> rfl
  pyHash := fun hv h => by
    rcases keyIs_shape hv with ⟨i, t, rfl, rfl⟩ | ⟨x, t, rfl, rfl⟩
    · exact wpAny_pyHash_int h
    · exact wpAny_pyHash_str h
  eqBool := fun hu hv h => by
    rcases keyIs_shape hu with ⟨i, t, rfl, rfl⟩ | ⟨x, t, rfl, rfl⟩
    · rcases keyIs_shape hv with ⟨j, u, rfl, rfl⟩ | ⟨y, u, rfl, rfl⟩
      · rw [key_ll] at h; exact wpAny_eqBool_int h
      · rw [key_lr] at h; exact SeqAt.EqAt.int_str i t y u _ _ _ _ h
    · rcases keyIs_shape hv with ⟨j, u, rfl, rfl⟩ | ⟨y, u, rfl, rfl⟩
      · rw [key_rl] at h; exact SeqAt.EqAt.str_int x t j u _ _ _ _ h
      · rw [key_rr] at h; exact wpAny_eqBool_str h
  «strs» := fun k x t v h => by
    rcases keyIs_shape h with ⟨i, u, rfl, e⟩ | ⟨y, u, rfl, e⟩
    · exact nomatch e
    · injection e with e1 _
      subst e1
      cases v <;> rfl

theorem mixKind_int (prog : Program) (w : World) (i : Int) (t : Tok) : (mixKind prog w).is (.inl i) (.int i t) = true := keyIs_int i t
theorem mixKind_str (prog : Program) (w : World) (x : Str) (t : Tok) : (mixKind prog w).is (.inr x) (.str x t) = true := keyIs_str x t
end L2

namespace L2
open PySem PySem.Spec PyProof.Rows

/-- a value, without the heap -/
inductive V where
  | non | bl (b : Bool) | int (i : Int) | str (x : Str) | byt (b : Array UInt8) | flt (b : UInt64) | ref (a : Addr) | ty (n : String)
  deriving DecidableEq

def RelV : V → Value → Prop
  | .non, u => u = Value.none
  | .bl b, u => u = Value.bool b
  | .int i, u => ∃ t, u = Value.int i t
  | .str x, u => ∃ t, u = Value.str x t
  | .byt b, u => ∃ t, u = Value.bytes b t
  | .flt b, u => ∃ t, u = Value.float b t
  | .ref a, u => u = Value.ref a
  | .ty n, u => u = Value.type n

abbrev Vals : List V → List Value → Prop := Paired RelV
theorem Vals.length {xs : List V} {us : List Value} (r : Vals xs us) : xs.length = us.length := Paired.length r
theorem Vals.get : ∀ {xs : List V} {us : List Value} {i : Nat} {x : V}, Vals xs us → xs[i]? = some x → ∃ u, us[i]? = some u ∧ RelV x u
  | _, _, _, _, .nil, e => by simp at e
  | _, _, 0, _, .cons r _, e => by simp at e; subst e; exact ⟨_, rfl, r⟩
  | _, _, i + 1, x, .cons _ t, e => by
    obtain ⟨u, h1, h2⟩ := Vals.get (i := i) (x := x) t (by simpa using e)
    exact ⟨u, by simpa using h1, h2⟩
theorem Vals.append : ∀ {xs ys : List V} {us ws : List Value}, Vals xs us → Vals ys ws → Vals (xs ++ ys) (us ++ ws)
  | _, _, _, _, .nil, s => s
  | _, _, _, _, .cons r t, s => .cons r (Vals.append t s)
theorem Vals.take : ∀ {xs : List V} {us : List Value} (n : Nat), Vals xs us → Vals (xs.take n) (us.take n)
  | _, _, 0, _ => .nil
  | _, _, _ + 1, .nil => .nil
  | _, _, n + 1, .cons r t => .cons r (Vals.take n t)
theorem Vals.drop : ∀ {xs : List V} {us : List Value} (n : Nat), Vals xs us → Vals (xs.drop n) (us.drop n)
  | _, _, 0, r => r
  | _, _, _ + 1, .nil => .nil
  | _, _, n + 1, .cons _ t => Vals.drop n t

def RelO : Option V → Option Value → Prop
  | some v, some u => RelV v u
  | none, none => True
  | _, _ => False
def KV {κ : Type} : List (κ × V) → List (κ × Value) → Prop := Paired fun (p : κ × V) (q : κ × Value) => p.1 = q.1 ∧ RelV p.2 q.2

/-- a key of a dict (00_mix): an int or a text -/
def kV : Key → V
  | .inl i => .int i
  | .inr x => .str x

/-- what stands at a tracked address -/
inductive HO where
  /-- a list -/
  | lst (xs : List V)
  /-- a tuple (never changes) -/
  | tup (xs : List V)
  /-- a dict whose keys are ints and texts; one whose keys are tuples of ints and texts (the empty one is both) -/
  | dK (kvs : List (Key × V)) | dT (kvs : List (List Key × V))
  /-- a set of ints: its members, its size -/
  | set (S : Int → Bool) (n : Nat)
  /-- an instance of the class at C, its dict at dx, its attributes -/
  | ins (C dx : Addr) (fs : List (Str × V))
  /-- the dict of the instance at x -/
  | own (x : Addr)
  /-- the dict of an exception -/
  | xd (fs : List (Str × V))
  /-- a bound method, f of x -/
  | met (f x : Addr)
  /-- a range object lo, lo + 1, .. below hi -/
  | rng (lo hi : Int)
  /-- a thing that is known to the object (the script; a dict while a loop walks it): read, never written while it is so -/
  | frz (o : Obj) (u : HO)
  /-- a code object's table -/
  | tbl (ps : Array Value)
  /-- any other thing, by what is true of its one object (a def of one's own: SetO a S n := HO.ext fun h => ..) -/
  | ext (φ : Heap → Prop)

abbrev Hp := Addr → Option HO
def upd (H : Hp) (a : Addr) (o : HO) : Hp := fun b => if b = a then some o else H b
theorem upd_same {H : Hp} {a : Addr} {o : HO} : upd H a o a = some o := by unfold upd; rw [if_pos rfl]
theorem upd_ne {H : Hp} {a b : Addr} {o : HO} (h : b ≠ a) : upd H a o b = H b := by unfold upd; rw [if_neg h]
/-- two objects of different content stand apart -/
theorem ne_of {H : Hp} {a b : Addr} {o u : HO} (h : H a = some o) (h' : H b = some u) (d : o ≠ u) : a ≠ b := by
  intro e; subst e; rw [h] at h'; exact d (Option.some.inj h')
theorem ne_of_none {H : Hp} {a b : Addr} {o : HO} (h : H a = some o) (h' : H b = none) : a ≠ b := by
  intro e; subst e; rw [h] at h'; cases h'

section
variable (P : Program) (w : World)
def ObjOk (H : Hp) (h : Heap) (a : Addr) : HO → Prop
  | .lst xs => xs.length ≤ sizeLine ∧ ∃ (its : List Value) (n : Nat), Vals xs its ∧ h.get? a = some { cls := .type "list", data := .seq its.toArray n }
  | .tup xs => xs.length ≤ sizeLine ∧ ∃ its : List Value, Vals xs its ∧ IsTup h a its.toArray
  | .dK kvs => kvs.length ≤ sizeLine ∧ (a == sysModules) = false ∧ ∃ vs, KV kvs vs ∧ h.DictOf (mixKind P w) a vs
  | .dT kvs => kvs.length ≤ sizeLine ∧ (a == sysModules) = false ∧ ∃ xs : List (List Key × Addr × Value),
      Paired (fun (p : List Key × V) (q : List Key × Addr × Value) => p.1 = q.1 ∧ H q.2.1 = some (.tup (p.1.map kV)) ∧ RelV p.2 q.2.2) kvs xs ∧
      ∃ o es ep, h.get? a = some o ∧ o.ExactDict ∧ o.data = .dict es ep ∧ es.toList = xs.map (entryOfKey (tupleKind (mixKind P w))) ∧ (xs.map (·.1)).Nodup
  | .set S n => h.SetOf (intKind P w) a S n
  | .ins C dx fs => H dx = some (.own a) ∧ fs.length ≤ 1000 ∧ dx ≠ a ∧ h.get? a = some (PySem.W.instObj C dx) ∧
      ∃ mA, h.Ns1 dx mA ∧ (∀ f, RelO (fs.lookup f) (mA f)) ∧ PySem.Within mA (fs.map (·.1))
  | .own _ => ∃ o, h.get? a = some o
  | .xd fs => ∃ mA, h.Ns1 a mA ∧ ∀ f, RelO (fs.lookup f) (mA f)
  | .rng lo hi => ∃ t u v, h.get? a = some { cls := .type "range", data := .fields #[.int lo t, .int hi u, .int 1 v] }
  | .frz o u => h.get? a = some o ∧ ObjOk H h a u
  | .tbl ps => h.get? a = some { cls := .none, data := .fields ps }
  | .met f x => h.get? a = some (PySem.W.methodObj (.ref f) (.ref x))
  | .ext φ => φ h ∧ (∃ o, h.get? a = some o) ∧ ∀ h1 h2 : Heap, φ h1 → (∀ o, h1.get? a = some o → h2.get? a = some o) → φ h2
/-- the abstract heap is held -/
def HOk (H : Hp) (h : Heap) : Prop := ∀ a o, H a = some o → ObjOk P w H h a o
end

section
variable {P : Program} {w : World} {H H' : Hp} {h h' : Heap} {a : Addr} {o : HO}
theorem ObjOk.lt (x : ObjOk P w H h a o) : a < h.objs.size := by
  cases o with
  | lst xs => obtain ⟨_, _, _, _, e⟩ := x; exact Heap.lt_size e
  | tup xs => obtain ⟨_, _, _, p⟩ := x; exact p.lt
  | dK kvs => obtain ⟨_, _, _, _, o, _, _, e, _⟩ := x; exact Heap.lt_size e
  | dT kvs => obtain ⟨_, _, _, _, o, _, _, e, _⟩ := x; exact Heap.lt_size e
  | set S n => obtain ⟨o, _, _, _, e, _⟩ := x; exact Heap.lt_size e
  | ins C dx fs => obtain ⟨_, _, _, e, _⟩ := x; exact Heap.lt_size e
  | own y => obtain ⟨_, e⟩ := x; exact Heap.lt_size e
  | xd fs => obtain ⟨_, ⟨_, _, _, e, _⟩, _⟩ := x; exact Heap.lt_size e
  | rng lo hi => obtain ⟨_, _, _, e⟩ := x; exact Heap.lt_size e
  | frz ob u => obtain ⟨e, _⟩ := x; exact Heap.lt_size e
  | tbl ps => exact Heap.lt_size (show h.get? a = some _ from x)
  | met f y => exact Heap.lt_size (show h.get? a = some _ from x)
  | ext φ => obtain ⟨_, ⟨_, e⟩, _⟩ := x; exact Heap.lt_size e
theorem Paired.mapP {α β : Type} {F G : α → β → Prop} : ∀ {l₁ : List α} {l₂ : List β}, Paired F l₁ l₂ → (∀ a b, F a b → G a b) → Paired G l₁ l₂
  | _, _, .nil, _ => .nil
  | _, _, .cons r t, f => .cons (f _ _ r) (Paired.mapP t f)
/-- what an object's description leans on: its own object, its own dict, the tuples -/
theorem ObjOk.stay (x : ObjOk P w H h a o) (k : ∀ b u, (b = a ∨ H b = some (.own a)) → h.get? b = some u → h'.get? b = some u)
    (ho : ∀ b, H b = some (.own a) → H' b = some (.own a)) (ht : ∀ b xs, H b = some (.tup xs) → H' b = some (.tup xs)) : ObjOk P w H' h' a o := by
  induction o with
  | lst xs => obtain ⟨z, its, n, r, e⟩ := x; exact ⟨z, its, n, r, k _ _ (.inl rfl) e⟩
  | tup xs => obtain ⟨z, its, r, ob, e, c⟩ := x; exact ⟨z, its, r, ob, k _ _ (.inl rfl) e, c⟩
  | dK kvs => obtain ⟨z, y, vs, r, ob, es, ep, e, c⟩ := x; exact ⟨z, y, vs, r, ob, es, ep, k _ _ (.inl rfl) e, c⟩
  | dT kvs =>
    obtain ⟨z, y, xs, r, ob, es, ep, e, c⟩ := x
    exact ⟨z, y, xs, Paired.mapP r fun p q z => ⟨z.1, ht _ _ z.2.1, z.2.2⟩, ob, es, ep, k _ _ (.inl rfl) e, c⟩
  | set S n => obtain ⟨ob, es, ep, t, e, c⟩ := x; exact ⟨ob, es, ep, t, k _ _ (.inl rfl) e, c⟩
  | ins C dx fs =>
    obtain ⟨d, z, ne, e, mA, ⟨od, es, ep, e2, c⟩, r⟩ := x
    exact ⟨ho _ d, z, ne, k _ _ (.inl rfl) e, mA, ⟨od, es, ep, k _ _ (.inr d) e2, c⟩, r⟩
  | own y => obtain ⟨ob, e⟩ := x; exact ⟨ob, k _ _ (.inl rfl) e⟩
  | xd fs => obtain ⟨mA, ⟨od, es, ep, e, c⟩, r⟩ := x; exact ⟨mA, ⟨od, es, ep, k _ _ (.inl rfl) e, c⟩, r⟩
  | rng lo hi => obtain ⟨t, u, v, e⟩ := x; exact ⟨t, u, v, k _ _ (.inl rfl) e⟩
  | frz ob u ih => obtain ⟨e, q⟩ := x; exact ⟨k _ _ (.inl rfl) e, ih q⟩
  | tbl ps =>
    have e : h.get? a = some { cls := .none, data := .fields ps } := x
    show h'.get? a = some { cls := .none, data := .fields ps }
    exact k a _ (.inl rfl) e
  | met f y =>
    have e : h.get? a = some (PySem.W.methodObj (.ref f) (.ref y)) := x
    show h'.get? a = some (PySem.W.methodObj (.ref f) (.ref y))
    exact k a _ (.inl rfl) e
  | ext φ => obtain ⟨p, ⟨o, e⟩, st⟩ := x; exact ⟨st _ _ p fun o q => k _ _ (.inl rfl) q, ⟨o, k _ _ (.inl rfl) e⟩, st⟩
theorem HOk.lt (x : HOk P w H h) (e : H a = some o) : a < h.objs.size := (x a o e).lt
theorem HOk.fresh (x : HOk P w H h) (e : h.objs.size ≤ a) : H a = none := by
  cases q : H a with
  | none => rfl
  | some u => exact absurd (Nat.lt_of_lt_of_le (x.lt q) e) (Nat.lt_irrefl _)
/-- every object of the heap is kept -/
theorem HOk.kept (x : HOk P w H h) (k : ∀ b u, h.get? b = some u → h'.get? b = some u) : HOk P w H h' := fun a o e =>
  (x a o e).stay (fun b u _ q => k b u q) (fun _ q => q) fun _ _ q => q
/-- a new object is laid and tracked -/
theorem HOk.laid (x : HOk P w H h) (k : ∀ b u, h.get? b = some u → h'.get? b = some u) (hp : h.objs.size ≤ a) (new : ObjOk P w (upd H a o) h' a o) : HOk P w (upd H a o) h' := fun b u e => by
  have hn := x.fresh hp
  by_cases hb : b = a
  · subst hb; rw [upd_same] at e; cases e; exact new
  · rw [upd_ne hb] at e
    exact (x b u e).stay (fun c v _ q => k c v q) (fun c q => by rw [upd_ne (ne_of_none q hn)]; exact q) fun c xs q => by rw [upd_ne (ne_of_none q hn)]; exact q
end

/-- what may be read as u: it is u, or a known u -/
def Rd (H : Hp) (a : Addr) (u : HO) : Prop := H a = some u ∨ ∃ o, H a = some (.frz o u)
theorem Rd.ok {P : Program} {w : World} {H : Hp} {h : Heap} {a : Addr} {u : HO} (r : Rd H a u) (x : HOk P w H h) : ObjOk P w H h a u := by
  rcases r with r | ⟨o, r⟩
  · exact x a u r
  · obtain ⟨_, q⟩ := x a _ r
    exact q
/-- what may be written -/
def Mut : Option HO → Prop
  | some (.lst _) => True
  | some (.dK _) => True
  | some (.dT _) => True
  | some (.set _ _) => True
  | some (.ins _ _ _) => True
  | some (.ext _) => True
  | _ => False
section
variable {P : Program} {w : World} {H : Hp} {h h' : Heap} {x e : Addr} {o' : HO}
/-- the object at e is changed: x itself, or the dict of the instance x -/
theorem HOk.write (ok : HOk P w H h) (mu : Mut (H x)) (he : e = x ∨ H e = some (.own x)) (k : ∀ b u, b ≠ e → h.get? b = some u → h'.get? b = some u) (heo : ∃ u, h'.get? e = some u)
    (new : ObjOk P w (upd H x o') h' x o') : HOk P w (upd H x o') h' := fun b u q => by
  have nown : ∀ c y, H c = some (.own y) → c ≠ x := fun c y r z => by subst z; rw [r] at mu; exact mu
  have ntup : ∀ c xs, H c = some (.tup xs) → c ≠ x := fun c xs r z => by subst z; rw [r] at mu; exact mu
  by_cases hb : b = x
  · subst hb; rw [upd_same] at q; cases q; exact new
  · rw [upd_ne hb] at q
    by_cases hbe : b = e
    · have q' : H b = some (.own x) := by
        rcases he with z | z
        · exact absurd (hbe.trans z) hb
        · rw [hbe]; exact z
      rw [q] at q'; cases q'
      obtain ⟨v, hv⟩ := heo
      exact ⟨v, by rw [hbe]; exact hv⟩
    · refine (ok b u q).stay (fun c v hc r => k c v ?_ r) (fun c r => by rw [upd_ne (nown c b r)]; exact r) fun c xs r => by rw [upd_ne (ntup c xs r)]; exact r
      rcases hc with rfl | hc
      · exact hbe
      · rintro rfl
        rcases he with z | z
        · exact nown c b hc z
        · rw [hc] at z; cases z; exact hb rfl
end

/-! ### kept unless tracked; of the frames at fs (the callers') the slots may change (an exception that passes writes there); of the records at ex (iterators) nothing is said -/
structure Un (fs ex : List Addr) (H H' : Hp) (h h' : Heap) : Prop where
  keep : ∀ b o, h.get? b = some o → H b = none → b ∉ fs → b ∉ ex → h'.get? b = some o
  slot : ∀ b o, h.get? b = some o → H b = none → b ∈ fs → b ∉ ex → ∃ sl, h'.get? b = some { o with slots := sl }
  free : ∀ b o, h.get? b = some o → H b = none → b ∉ ex → H' b = none
  there : ∀ b o, h.get? b = some o → b ∉ ex → ∃ o', h'.get? b = some o'
  tups : ∀ b xs, H b = some (.tup xs) → H' b = some (.tup xs)
  frzs : ∀ b o u, H b = some (.frz o u) → H' b = some (.frz o u)
  tbls : ∀ b ps, H b = some (.tbl ps) → ∃ more, H' b = some (.tbl (ps ++ more))
section
variable {fs fs' ex ex' : List Addr} {H H1 H2 : Hp} {h h1 h2 h' : Heap} {a x e : Addr} {o : HO}
theorem Un.any (u : Un fs ex H H1 h h1) {b : Addr} {ob : Obj} (q : h.get? b = some ob) (n : H b = none) (hx : b ∉ ex) : ∃ sl, h1.get? b = some { ob with slots := sl } := by
  by_cases hb : b ∈ fs
  · exact u.slot b ob q n hb hx
  · exact ⟨ob.slots, u.keep b ob q n hb hx⟩
theorem Un.kept (k : ∀ b u, h.get? b = some u → h'.get? b = some u) : Un fs ex H H h h' :=
  ⟨fun b ob q _ _ _ => k b ob q, fun b ob q _ _ _ => ⟨ob.slots, k b ob q⟩, fun _ _ _ n _ => n, fun b ob q _ => ⟨ob, k b ob q⟩, fun _ _ q => q, fun _ _ _ q => q, fun _ ps q => ⟨#[], by rw [q]; simp⟩⟩
theorem Un.refl : Un fs ex H H h h := Un.kept fun _ _ q => q
theorem Un.laid (k : ∀ b u, h.get? b = some u → h'.get? b = some u) (hp : h.objs.size ≤ a) (hn : H a = none) : Un fs ex H (upd H a o) h h' where
  keep := fun b u q _ _ _ => k b u q
  slot := fun b u q _ _ _ => ⟨u.slots, k b u q⟩
  free := fun b u q n _ => by rw [upd_ne (Nat.ne_of_lt (Nat.lt_of_lt_of_le (Heap.lt_size q) hp))]; exact n
  there := fun b u q _ => ⟨u, k b u q⟩
  tups := fun b xs q => by rw [upd_ne (ne_of_none q hn)]; exact q
  frzs := fun b u xs q => by rw [upd_ne (ne_of_none q hn)]; exact q
  tbls := fun b ps q => ⟨#[], by rw [upd_ne (ne_of_none q hn), q]; simp⟩
theorem Un.write (mu : Mut (H x)) (he : e = x ∨ H e = some (.own x)) (k : ∀ b u, b ≠ e → h.get? b = some u → h'.get? b = some u) (heo : ∃ u, h'.get? e = some u) : Un fs ex H (upd H x o) h h' := by
  have hx : ∀ b, H b = none → b ≠ x := fun b n z => by subst z; rw [n] at mu; exact mu
  have hb : ∀ b, H b = none → b ≠ e := fun b n z => by
    subst z
    rcases he with r | r
    · exact hx b n r
    · rw [n] at r; cases r
  have hm : ∀ b u, H b = some u → ¬ Mut (some u) → b ≠ x := fun b u q nm z => by subst z; rw [q] at mu; exact nm mu
  refine ⟨fun b u q n _ _ => k b u (hb b n) q, fun b u q n _ _ => ⟨u.slots, k b u (hb b n) q⟩, fun b u q n _ => by rw [upd_ne (hx b n)]; exact n, fun b u q _ => ?_,
    fun b xs q => by rw [upd_ne (hm b _ q fun z => z)]; exact q, fun b u xs q => by rw [upd_ne (hm b _ q fun z => z)]; exact q, fun b ps q => ⟨#[], by rw [upd_ne (hm b _ q fun z => z), q]; simp⟩⟩
  by_cases hbe : b = e
  · subst hbe; exact heo
  · exact ⟨u, k b u hbe q⟩
end

/-! ### the heap without what is tracked -/
def trk (h : Heap) (H : Hp) : List Addr := (List.range h.objs.size).filter fun a => (H a).isSome
def hidT (h : Heap) (H : Hp) : Heap := PySem.W.hideAll h (trk h H)
theorem hidT_size (h : Heap) (H : Hp) : (hidT h H).objs.size = h.objs.size := PySem.W.hideAll_size _ _
theorem hidT_get {h : Heap} {H : Hp} {b : Addr} {o : Obj} (e : h.get? b = some o) (n : H b = none) : (hidT h H).get? b = some o :=
  PySem.W.hideAll_get _ e fun hm => by
    have q : (H b).isSome = true := (List.mem_filter.mp hm).2
    rw [n] at q; simp at q
theorem of_hidT {h : Heap} {H : Hp} {b : Addr} {o : Obj} (e : (hidT h H).get? b = some o) : h.get? b = some o ∧ H b = none := by
  have e' : h.get? b = some o := PySem.W.of_hideAll (trk h H) e
  refine ⟨e', ?_⟩
  cases q : H b with
  | none => rfl
  | some x =>
    have hm : b ∈ trk h H := List.mem_filter.mpr ⟨List.mem_range.mpr (Heap.lt_size e'), by simp [q]⟩
    have z : (hidT h H).get? b = none := PySem.W.hideAll_none (trk h H) hm
    rw [z] at e; cases e

/-! ### OpenK's ledger, filled with every new object but one -/
def allNews (g h : Heap) (L : Addr) : List (Addr × Obj) := (List.range h.objs.size).filterMap fun a => if a = L ∨ (g.get? a).isSome = true then none else (h.get? a).map fun o => (a, o)
def rest (g h : Heap) (L d : Addr) : List (Addr × Obj) := (allNews g h L).filter fun p => decide (p.1 ≠ d)
end L2

namespace L2
open PySem PySem.Spec PyProof.Rows

/-- the module's facts, over the base: the heap at the law's entry without what is tracked there -/
structure Mod (K : PySem.W.Frag) (mg : Str → Option Value) (base : Heap) : Prop where
  kin : K.In base
  glob : base.Ns mainGlobals mg
  blt : ∃ mb, base.Ns builtinsNs mb ∧ ∀ x : Str, x ≠ "__name__" → mb x = bootBuiltins x
  nolimit : base.NoLimit

/-- the context: a def's body (or a comprehension's block) running. base: fixed through the whole law; s₀, H₀: the entry; outer: the frames whose slots others may change (a def's callers); stack: all frames that run;
   ex: iterators that were made ahead of the entry and are walked here (a comprehension's); fn: the names whose cells were made at the entry (a def: all; a comprehension's block: its own); calm: not within an except suite; pn: pins that every state bears; xe: what is wanted of an exception that leaves the code -/
structure Cx where
  prog : Program
  w : World
  K : PySem.W.Frag
  mg : Str → Option Value
  base : Heap
  A : Around
  N : List Str
  s₀ : Shared
  H₀ : Hp
  env : Env
  outer : List Env
  stack : List Env
  ex : List Addr
  fn : Str → Bool
  calm : Bool
  pn : List (Addr × Obj)
  xe : Value → Shared → Prop
/-- the callers' frames -/
def frs (l : List Env) : List Addr := l.filterMap (·.frame)
abbrev Cx.fs (X : Cx) : List Addr := frs X.outer

def Vis (sc : Scope) (x : Str) : Prop := sc.names.lookup x = some .local ∨ sc.names.lookup x = some .cell ∨ sc.names.lookup x = some .free
def Loc (sc : Scope) (x : Str) : Prop := sc.names.lookup x = some .local ∨ sc.names.lookup x = some .cell
def Look (env : Env) (h : Heap) (m : Str → Option Value) (x : Str) (u : Value) : Prop :=
  (env.kindOf x = some .local ∧ m x = some u) ∨ ((env.kindOf x = some .cell ∨ env.kindOf x = some .free) ∧ ∃ c, env.cells.lookup x = some c ∧ h.IsCell c (some u))

structure Cx.Ok (X : Cx) : Prop where
  mod : Mod X.K X.mg X.base
  kind : X.env.scope.kind = .function
  glob : X.env.globals = mainGlobals
  blt : X.env.builtins = builtinsNs
  above : X.s₀.heap.objs.size ≤ X.env.locals
  inj : ∀ x y c, X.env.cells.lookup x = some c → X.env.cells.lookup y = some c → x = y
  has : ∀ x, (X.env.kindOf x = some .cell ∨ X.env.kindOf x = some .free) → ∃ c, X.env.cells.lookup x = some c
  cab : ∀ x c, X.fn x = true → X.env.cells.lookup x = some c → X.s₀.heap.objs.size ≤ c
  hd : X.calm = true → X.A.handled = none
  frames : X.A.frames = some X.stack
  stk : X.stack = X.outer ∨ (X.stack = X.env :: X.outer ∧ X.env.frame = some X.env.locals)
  exf : ∀ b ∈ X.ex, b ≠ X.env.locals ∧ ∀ x c, X.env.cells.lookup x = some c → c ≠ b
  bs : ∀ b o, X.base.get? b = some o → X.s₀.heap.get? b = some o ∧ X.H₀ b = none
  bsz : X.base.objs.size ≤ X.s₀.heap.objs.size
  noex : ∀ b o, X.base.get? b = some o → b ∉ X.ex
  exfs : ∀ b ∈ X.ex, b ∉ X.fs
  funs : X.s₀.heap.FunFrames X.base X.outer
  frf : ∀ b ∈ X.fs, X.H₀ b = none

structure Inv (X : Cx) (pins : List (Addr × Obj)) (σ : List (Option V)) (H : Hp) (s : Shared) : Prop where
  ok : X.Ok
  os : s.os = X.s₀.os
  bare : AllBare s.gens
  base : Un X.fs X.ex X.H₀ H X.s₀.heap s.heap
  loc : ∃ m, s.heap.Ns X.env.locals m ∧ ∀ (i : Nat) (x : Str) (v : V), X.N[i]? = some x → σ[i]? = some (some v) → Vis X.env.scope x → ∃ u, RelV v u ∧ Look X.env s.heap m x u
  cell : ∀ x c, X.env.cells.lookup x = some c → ∃ v, s.heap.IsCell c v
  free : H X.env.locals = none
  freeC : ∀ x c, X.env.cells.lookup x = some c → H c = none
  pin : ∀ p ∈ X.pn ++ pins, s.heap.get? p.1 = some p.2 ∧ H p.1 = none ∧ p.1 ≠ X.env.locals ∧ p.1 ∉ X.fs ∧ ∀ v, p.2.data ≠ .cell v
  hok : HOk X.prog X.w H s.heap
  len : σ.length = X.N.length

section
variable {X : Cx} {pins : List (Addr × Obj)} {σ : List (Option V)} {H H' : Hp} {s : Shared} {h' : Heap}

theorem Cx.Ok.nofr (ok : X.Ok) {b : Addr} {o : Obj} (e : X.base.get? b = some o) : b ∉ X.fs := fun hb => by
  have := (ok.funs.mem hb).1
  rw [e] at this; cases this
theorem Inv.bs (I : Inv X pins σ H s) : ∀ b o, X.base.get? b = some o → s.heap.get? b = some o ∧ H b = none := fun b o e =>
  ⟨I.base.keep b o (I.ok.bs b o e).1 (I.ok.bs b o e).2 (I.ok.nofr e) (I.ok.noex b o e), I.base.free b o (I.ok.bs b o e).1 (I.ok.bs b o e).2 (I.ok.noex b o e)⟩
theorem Inv.bk (I : Inv X pins σ H s) : ∀ b o, X.base.get? b = some o → s.heap.get? b = some o := fun b o e => (I.bs b o e).1
theorem Inv.mod (I : Inv X pins σ H s) : Mod X.K X.mg X.base := I.ok.mod
theorem Inv.kIn (I : Inv X pins σ H s) : X.K.In s.heap := I.ok.mod.kin.keeps I.bk
theorem Inv.lt (I : Inv X pins σ H s) : X.env.locals < s.heap.objs.size := let ⟨_, hn, _⟩ := I.loc; hn.lt
theorem Inv.sz (I : Inv X pins σ H s) : X.s₀.heap.objs.size ≤ s.heap.objs.size := Nat.le_trans I.ok.above (Nat.le_of_lt I.lt)
theorem Inv.nofs (I : Inv X pins σ H s) {a : Addr} (h : s.heap.objs.size ≤ a) : a ∉ X.fs := fun hb => by
  obtain ⟨_, o, ho, _⟩ := I.ok.funs.mem hb
  exact absurd (Nat.lt_of_lt_of_le (Heap.lt_size ho) (Nat.le_trans I.sz h)) (Nat.lt_irrefl _)
theorem Inv.cne (I : Inv X pins σ H s) : ∀ x c, X.env.cells.lookup x = some c → c ≠ X.env.locals := fun x c e z => by
  obtain ⟨v, o, ho, hd⟩ := I.cell x c e
  obtain ⟨m, ⟨o', es, ep, ho', hd', _⟩, _⟩ := I.loc
  rw [z, ho'] at ho; cases ho; rw [hd'] at hd; cases hd
theorem Inv.funs (I : Inv X pins σ H s) : s.heap.FunFrames X.base X.outer := by
  have all : ∀ (l : List Env), (∀ b ∈ frs l, b ∈ X.fs) → X.s₀.heap.FunFrames X.base l → s.heap.FunFrames X.base l := by
    intro l
    induction l with
    | nil => intro _ _; trivial
    | cons env r ih =>
      intro hs hl
      obtain ⟨hk, ⟨L, o, hf, hn, ho, hd⟩, hr⟩ := hl
      have hL : L ∈ X.fs := hs L (by unfold frs; rw [List.filterMap_cons, hf]; exact List.mem_cons_self)
      obtain ⟨sl, e⟩ := I.base.slot L o ho (I.ok.frf L hL) hL fun z => I.ok.exfs L z hL
      exact ⟨hk, ⟨L, _, hf, hn, e, hd⟩, ih (fun b hb => hs b (by unfold frs; rw [List.filterMap_cons, hf]; exact List.mem_cons_of_mem _ hb)) hr⟩
  exact all X.outer (fun _ hb => hb) I.ok.funs

/-- the frames that run, for a call -/
theorem Inv.stack (I : Inv X pins σ H s) : s.heap.FunFrames X.base X.stack := by
  rcases I.ok.stk with e | ⟨e, hf⟩
  · rw [e]; exact I.funs
  · rw [e]
    obtain ⟨m, hn, _⟩ := I.loc
    refine .cons (by rw [I.ok.kind]; decide) hf hn ?_ I.funs
    exact Heap.get?_none_of_le (Nat.le_trans I.ok.bsz I.ok.above)
theorem Inv.stkSub (I : Inv X pins σ H s) : ∀ b ∈ frs X.stack, b ∈ X.env.locals :: X.fs := fun b hb => by
  rcases I.ok.stk with e | ⟨e, hf⟩
  · rw [e] at hb; exact List.mem_cons_of_mem _ hb
  · rw [e] at hb
    unfold frs at hb
    rw [List.filterMap_cons, hf] at hb
    exact hb
theorem Inv.stkFree (I : Inv X pins σ H s) : ∀ b ∈ frs X.stack, H b = none := fun b hb => by
  rcases List.mem_cons.mp (I.stkSub b hb) with e | hb
  · rw [e]; exact I.free
  · obtain ⟨_, o, ho, _⟩ := I.ok.funs.mem hb
    exact I.base.free b o ho (I.ok.frf b hb) fun z => I.ok.exfs b z hb

/-- THE STEP: the untracked objects but the frame and the records at ch are kept (the callers' frames up to slots), the frame's map is kept, the new abstract heap is held -/
theorem Inv.step {g' : Array GenState} {t' : Nat} {d' : Drawn} {ch : List Addr} (I : Inv X pins σ H s)
    (hch : ∀ b ∈ ch, (b ∈ X.ex ∨ X.s₀.heap.objs.size ≤ b) ∧ b ≠ X.env.locals ∧ (∀ x c, X.env.cells.lookup x = some c → c ≠ b) ∧ ∀ p ∈ X.pn ++ pins, p.1 ≠ b)
    (keep : ∀ b o, b ≠ X.env.locals → b ∉ X.fs → b ∉ ch → s.heap.get? b = some o → H b = none → h'.get? b = some o)
    (slot : ∀ b o, b ≠ X.env.locals → b ∈ X.fs → b ∉ ch → s.heap.get? b = some o → H b = none → ∃ sl, h'.get? b = some { o with slots := sl }) (free : ∀ b o, b ∉ ch → s.heap.get? b = some o → H b = none → H' b = none)
    (there : ∀ b o, b ∉ ch → s.heap.get? b = some o → ∃ o', h'.get? b = some o')
    (tups : ∀ b xs, H b = some (.tup xs) → H' b = some (.tup xs)) (frzs : ∀ b o u, H b = some (.frz o u) → H' b = some (.frz o u)) (tbls : ∀ b ps, H b = some (.tbl ps) → ∃ more, H' b = some (.tbl (ps ++ more)))
    (ns : ∀ m, s.heap.Ns X.env.locals m → h'.Ns X.env.locals m) (hok : HOk X.prog X.w H' h') (hg : AllBare g') :
    Inv X pins σ H' { s with heap := h', gens := g', drawn := d', toks := t' } := by
  have neL : ∀ b o, X.s₀.heap.get? b = some o → b ≠ X.env.locals := fun b o e => Nat.ne_of_lt (Nat.lt_of_lt_of_le (Heap.lt_size e) I.ok.above)
  have neC : ∀ b o, X.s₀.heap.get? b = some o → b ∉ X.ex → b ∉ ch := fun b o e hx hb => by
    rcases (hch b hb).1 with z | z
    · exact hx z
    · exact absurd (Nat.lt_of_lt_of_le (Heap.lt_size e) z) (Nat.lt_irrefl _)
  have cellK : ∀ x c, X.env.cells.lookup x = some c → ∀ v, s.heap.IsCell c v → h'.IsCell c v := fun x c e v ⟨o, ho, hd⟩ => by
    have nch : c ∉ ch := fun z => (hch c z).2.2.1 x c e rfl
    by_cases hc : c ∈ X.fs
    · obtain ⟨sl, q⟩ := slot c o (I.cne x c e) hc nch ho (I.freeC x c e)
      exact ⟨_, q, hd⟩
    · exact ⟨o, keep c o (I.cne x c e) hc nch ho (I.freeC x c e), hd⟩
  refine ⟨I.ok, I.os, hg, ⟨fun b o e n hb hx => ?_, fun b o e n hb hx => ?_, fun b o e n hx => ?_, fun b o e hx => ?_, fun b xs e => tups b xs (I.base.tups b xs e), fun b o xs e => frzs b o xs (I.base.frzs b o xs e), fun b ps e => ?_⟩, ?_, fun x c e => ?_, ?_, fun x c e => ?_, fun p hp => ?_, hok, I.len⟩
  · exact keep b o (neL b o e) hb (neC b o e hx) (I.base.keep b o e n hb hx) (I.base.free b o e n hx)
  · obtain ⟨sl, e1⟩ := I.base.slot b o e n hb hx
    obtain ⟨sl', e2⟩ := slot b _ (neL b o e) hb (neC b o e hx) e1 (I.base.free b o e n hx)
    exact ⟨sl', e2⟩
  · obtain ⟨o', e1⟩ := I.base.there b o e hx
    exact free b o' (neC b o e hx) e1 (I.base.free b o e n hx)
  · obtain ⟨o', e1⟩ := I.base.there b o e hx
    exact there b o' (neC b o e hx) e1
  · obtain ⟨m1, e1⟩ := I.base.tbls b ps e
    obtain ⟨m2, e2⟩ := tbls b _ e1
    exact ⟨m1 ++ m2, by rw [e2, Array.append_assoc]⟩
  · obtain ⟨m, hn, hl⟩ := I.loc
    refine ⟨m, ns m hn, fun i x v e1 e2 e3 => ?_⟩
    obtain ⟨u, r, l⟩ := hl i x v e1 e2 e3
    refine ⟨u, r, ?_⟩
    rcases l with l | ⟨k, c, e, z⟩
    · exact .inl l
    · exact .inr ⟨k, c, e, cellK x c e _ z⟩
  · obtain ⟨v, z⟩ := I.cell x c e
    exact ⟨v, cellK x c e v z⟩
  · obtain ⟨m, ⟨o, _, _, ho, _⟩, _⟩ := I.loc
    exact free _ o (fun z => (hch _ z).2.1 rfl) ho I.free
  · obtain ⟨v, o, ho, hd⟩ := I.cell x c e
    exact free c o (fun z => (hch c z).2.2.1 x c e rfl) ho (I.freeC x c e)
  · obtain ⟨e, n, ne, nf, d⟩ := I.pin p hp
    have nch : p.1 ∉ ch := fun z => (hch p.1 z).2.2.2 p hp rfl
    exact ⟨keep p.1 p.2 ne nf nch e n, free p.1 p.2 nch e n, ne, nf, d⟩
/-- .. where the frame's own object is kept too -/
theorem Inv.un {t' : Nat} (I : Inv X pins σ H s) (u : Un X.fs [] H H' s.heap h') (hok : HOk X.prog X.w H' h') : Inv X pins σ H' { s with heap := h', toks := t' } := by
  obtain ⟨m, ⟨o, es, ep, ho, r⟩, _⟩ := id I.loc
  obtain ⟨sl, hL⟩ := u.any ho I.free (by simp)
  exact I.step (g' := s.gens) (d' := s.drawn) (ch := []) (fun _ z => nomatch z) (fun b o _ hb _ e n => u.keep b o e n hb (by simp)) (fun b o _ hb _ e n => u.slot b o e n hb (by simp)) (fun b o _ e n => u.free b o e n (by simp)) (fun b o _ e => u.there b o e (by simp)) u.tups u.frzs u.tbls (fun m' hm => by
    obtain ⟨o', es', ep', ho', r'⟩ := hm
    rw [ho] at ho'; cases ho'
    exact ⟨_, es', ep', hL, r'⟩) hok I.bare
/-- behind a call (or a comprehension's block): the slots of this frame may have changed too, the records at ch may have turned -/
theorem Inv.call {g' : Array GenState} {t' : Nat} {d' : Drawn} {ch : List Addr} (I : Inv X pins σ H s) (u : Un (frs X.stack) ch H H' s.heap h') (hok : HOk X.prog X.w H' h') (hg : AllBare g')
    (hch : ∀ b ∈ ch, (b ∈ X.ex ∨ X.s₀.heap.objs.size ≤ b) ∧ b ≠ X.env.locals ∧ (∀ x c, X.env.cells.lookup x = some c → c ≠ b) ∧ ∀ p ∈ X.pn ++ pins, p.1 ≠ b) :
    Inv X pins σ H' { s with heap := h', gens := g', drawn := d', toks := t' } := by
  obtain ⟨m, ⟨o, es, ep, ho, r⟩, _⟩ := id I.loc
  obtain ⟨sl, hL⟩ := u.any ho I.free fun z => (hch _ z).2.1 rfl
  exact I.step (ch := ch) hch (fun b o hL hb hc e n => u.keep b o e n (fun z => (List.mem_cons.mp (I.stkSub b z)).elim hL hb) hc) (fun b o _ _ hc e n => u.any e n hc) (fun b o hc e n => u.free b o e n hc) (fun b o hc e => u.there b o e hc) u.tups u.frzs u.tbls (fun m' hm => by
    obtain ⟨o', es', ep', ho', r'⟩ := hm
    rw [ho] at ho'; cases ho'
    exact ⟨_, es', ep', hL, r'⟩) hok hg
/-- an untracked record of ours (an iterator) has turned -/
theorem Inv.turned {t' : Nat} {it : Addr} (I : Inv X pins σ H s) (k : ∀ b o, b ≠ it → s.heap.get? b = some o → h'.get? b = some o) (hn : H it = none) (hL : it ≠ X.env.locals)
    (h1 : it ∈ X.ex ∨ X.s₀.heap.objs.size ≤ it) (h2 : ∀ x c, X.env.cells.lookup x = some c → c ≠ it) (h3 : ∀ p ∈ X.pn ++ pins, p.1 ≠ it) : Inv X pins σ H { s with heap := h', toks := t' } := by
  have nit : ∀ b u, H b = some u → b ≠ it := fun b u e z => by rw [z, hn] at e; cases e
  refine I.step (g' := s.gens) (d' := s.drawn) (ch := [it]) (fun b hb => ?_) (fun b o _ _ hc e _ => k b o (fun z => hc (by simp [z])) e) (fun b o _ _ hc e _ => ⟨o.slots, k b o (fun z => hc (by simp [z])) e⟩) (fun _ _ _ _ n => n)
    (fun b o hc e => ⟨o, k b o (fun z => hc (by simp [z])) e⟩) (fun _ _ e => e) (fun _ _ _ e => e) (fun b ps e => ⟨#[], by rw [e]; simp⟩) (fun m hm => ?_) (fun b u e => ?_) I.bare
  · have e : b = it := by simpa using hb
    subst e
    exact ⟨h1, hL, h2, h3⟩
  · obtain ⟨o, es, ep, ho, r⟩ := hm
    exact ⟨o, es, ep, k _ o (Ne.symm hL) ho, r⟩
  · refine (I.hok b u e).stay (fun c v hc q => k c v ?_ q) (fun _ q => q) fun _ _ q => q
    rcases hc with z | z
    · rw [z]; exact nit b u e
    · exact nit c _ z
theorem Inv.tok (I : Inv X pins σ H s) (t : Nat) : Inv X pins σ H { s with toks := t } := I.un (h' := s.heap) (t' := t) Un.refl I.hok
/-- all objects kept -/
theorem Inv.kept {t' : Nat} (I : Inv X pins σ H s) (k : ∀ b u, s.heap.get? b = some u → h'.get? b = some u) : Inv X pins σ H { s with heap := h', toks := t' } := I.un (Un.kept k) (I.hok.kept k)
/-- a new object laid and tracked -/
theorem Inv.laid {a : Addr} {o : HO} {t' : Nat} (I : Inv X pins σ H s) (k : ∀ b u, s.heap.get? b = some u → h'.get? b = some u) (hp : s.heap.objs.size ≤ a) (new : ObjOk X.prog X.w (upd H a o) h' a o) :
    Inv X pins σ (upd H a o) { s with heap := h', toks := t' } := I.un (Un.laid k hp (I.hok.fresh hp)) (I.hok.laid k hp new)
/-- an object written -/
theorem Inv.write {x e : Addr} {o : HO} {t' : Nat} (I : Inv X pins σ H s) (mu : Mut (H x)) (he : e = x ∨ H e = some (.own x)) (k : ∀ b u, b ≠ e → s.heap.get? b = some u → h'.get? b = some u) (heo : ∃ u, h'.get? e = some u)
    (new : ObjOk X.prog X.w (upd H x o) h' x o) : Inv X pins σ (upd H x o) { s with heap := h', toks := t' } := I.un (Un.write mu he k heo) (I.hok.write mu he k heo new)
theorem Inv.pins_of {pins' : List (Addr × Obj)} (I : Inv X pins σ H s) (h : ∀ p ∈ pins', s.heap.get? p.1 = some p.2 ∧ H p.1 = none ∧ p.1 ≠ X.env.locals ∧ p.1 ∉ X.fs ∧ ∀ v, p.2.data ≠ .cell v) : Inv X pins' σ H s :=
  ⟨I.ok, I.os, I.bare, I.base, I.loc, I.cell, I.free, I.freeC, fun p hp => (List.mem_append.mp hp).elim (fun z => I.pin p (List.mem_append_left _ z)) (h p), I.hok, I.len⟩

theorem nodup_ix {N : List Str} (hN : N.Nodup) {i j : Nat} {x : Str} (a : N[i]? = some x) (b : N[j]? = some x) : i = j := by
  obtain ⟨h1, e1⟩ := List.getElem?_eq_some_iff.mp a
  obtain ⟨h2, e2⟩ := List.getElem?_eq_some_iff.mp b
  exact (List.getElem_inj hN).mp (e1.trans e2.symm)

/-- a name is stored; what changed -/
theorem store_ok2 {M : Model} {A : Around} {E : Value → Shared → Prop} {i : Nat} {x : Str} {v : V} {u : Value} {Q : Unit → Shared → Prop} (I : Inv X pins σ H s) (hN : X.N.Nodup) (hi : X.N[i]? = some x) (hx : Loc X.env.scope x) (r : RelV v u)
    (h : ∀ s', Inv X pins (σ.set i (some v)) H s' → (∃ a, Heap.SameBut a s.heap s'.heap ∧ (a = X.env.locals ∨ X.env.cells.lookup x = some a)) → Q () s') (hf : X.fn x = true ∨ X.env.scope.names.lookup x = some .local := by first | exact .inl rfl | exact .inr rfl | assumption) : wpAny M A (storeName X.env x u) Q E s := by
  obtain ⟨m, hn, hl⟩ := id I.loc
  have hcls : (X.env.scope.kind == .class || (X.env.scope.kind == .module && X.env.locals != X.env.globals)) = false := by rw [I.ok.kind]; rfl
  have hiσ : i < σ.length := by rw [I.len]; exact (List.getElem?_eq_some_iff.mp hi).1
  have cne := I.cne
  have tracked : ∀ {a : Addr} {h' : Heap}, (∃ o, s.heap.get? a = some o ∧ H a = none) → Heap.SameBut a s.heap h' → HOk X.prog X.w H h' := fun {a h'} ha hs b ob e => by
    obtain ⟨_, _, hfree⟩ := ha
    refine (I.hok b ob e).stay (fun c w' hc q => (hs.2 c ?_).trans q) (fun _ q => q) fun _ _ q => q
    rintro rfl
    rcases hc with rfl | hc
    · rw [hfree] at e; cases e
    · rw [hfree] at hc; cases hc
  rcases hx with hk | hk
  · refine wpAny_storeName_local hk hn (fun h' hn' hs => ?_) hcls
    obtain ⟨oL, _, _, hoL, _⟩ := id hn
    refine h _ ⟨I.ok, I.os, I.bare, ⟨fun b o e n hb hx => ?_, fun b o e n hb hx => ?_, I.base.free, fun b o e hx => ?_, I.base.tups, I.base.frzs, I.base.tbls⟩, ⟨_, hn', fun j y v' e1 e2 e3 => ?_⟩, fun y c e => ?_, I.free, I.freeC, fun p hp => ?_, tracked ⟨oL, hoL, I.free⟩ hs, by simpa using I.len⟩ ⟨_, hs, .inl rfl⟩
    · exact (hs.2 b (Nat.ne_of_lt (Nat.lt_of_lt_of_le (Heap.lt_size e) I.ok.above))).trans (I.base.keep b o e n hb hx)
    · obtain ⟨sl, e1⟩ := I.base.slot b o e n hb hx
      exact ⟨sl, (hs.2 b (Nat.ne_of_lt (Nat.lt_of_lt_of_le (Heap.lt_size e) I.ok.above))).trans e1⟩
    · obtain ⟨o', e1⟩ := I.base.there b o e hx
      exact ⟨o', (hs.2 b (Nat.ne_of_lt (Nat.lt_of_lt_of_le (Heap.lt_size e) I.ok.above))).trans e1⟩
    · by_cases hj : j = i
      · subst hj
        rw [hi] at e1; cases e1
        rw [List.getElem?_set_self hiσ] at e2
        cases e2
        exact ⟨u, r, .inl ⟨hk, by simp⟩⟩
      · rw [List.getElem?_set_ne (Ne.symm hj)] at e2
        obtain ⟨u', r', q⟩ := hl j y v' e1 e2 e3
        refine ⟨u', r', ?_⟩
        rcases q with ⟨k, e⟩ | ⟨k, c, e, z⟩
        · refine .inl ⟨k, ?_⟩
          have : y ≠ x := fun e => hj (nodup_ix hN e1 (e ▸ hi))
          simp [this, e]
        · exact .inr ⟨k, c, e, z.sameBut hs (cne y c e)⟩
    · obtain ⟨w', z⟩ := I.cell y c e
      exact ⟨w', z.sameBut hs (cne y c e)⟩
    · obtain ⟨e, n, ne, nf, d⟩ := I.pin p hp
      exact ⟨(hs.2 p.1 ne).trans e, n, ne, nf, d⟩
  · have hfn : X.fn x = true := by
      rcases hf with z | z
      · exact z
      · rw [z] at hk; cases hk
    obtain ⟨c, hc⟩ := I.ok.has x (.inl hk)
    obtain ⟨w', z⟩ := I.cell x c hc
    refine wpAny_storeName_cell I.ok.kind hk hc z (fun h' hc' hs => ?_)
    obtain ⟨oc, hoc, hocd⟩ := id z
    refine h { s with heap := h' } ⟨I.ok, I.os, I.bare, ⟨fun b o e n hb hx => ?_, fun b o e n hb hx => ?_, I.base.free, fun b o e hx => ?_, I.base.tups, I.base.frzs, I.base.tbls⟩, ⟨m, hn.sameBut hs (Ne.symm (cne x c hc)), fun j y v' e1 e2 e3 => ?_⟩, fun y c' e => ?_, I.free, I.freeC, fun p hp => ?_, tracked ⟨oc, hoc, I.freeC x c hc⟩ hs, by simpa using I.len⟩ ⟨c, hs, .inr hc⟩
    · exact (hs.2 b (Nat.ne_of_lt (Nat.lt_of_lt_of_le (Heap.lt_size e) (I.ok.cab x c hfn hc)))).trans (I.base.keep b o e n hb hx)
    · obtain ⟨sl, e1⟩ := I.base.slot b o e n hb hx
      exact ⟨sl, (hs.2 b (Nat.ne_of_lt (Nat.lt_of_lt_of_le (Heap.lt_size e) (I.ok.cab x c hfn hc)))).trans e1⟩
    · obtain ⟨o', e1⟩ := I.base.there b o e hx
      exact ⟨o', (hs.2 b (Nat.ne_of_lt (Nat.lt_of_lt_of_le (Heap.lt_size e) (I.ok.cab x c hfn hc)))).trans e1⟩
    · by_cases hj : j = i
      · subst hj
        rw [hi] at e1; cases e1
        rw [List.getElem?_set_self hiσ] at e2
        cases e2
        exact ⟨u, r, .inr ⟨.inl hk, c, hc, hc'⟩⟩
      · rw [List.getElem?_set_ne (Ne.symm hj)] at e2
        obtain ⟨u', r', q⟩ := hl j y v' e1 e2 e3
        refine ⟨u', r', ?_⟩
        rcases q with q | ⟨k, c', e, z'⟩
        · exact .inl q
        · refine .inr ⟨k, c', e, z'.sameBut hs ?_⟩
          rintro rfl
          exact hj (nodup_ix hN e1 (I.ok.inj _ _ _ e hc ▸ hi))
    · by_cases hcc : c' = c
      · subst hcc; exact ⟨_, hc'⟩
      · obtain ⟨w2, z2⟩ := I.cell y c' e
        exact ⟨w2, z2.sameBut hs hcc⟩
    · obtain ⟨e, n, ne, nf, d⟩ := I.pin p hp
      refine ⟨(hs.2 p.1 ?_).trans e, n, ne, nf, d⟩
      intro q
      rw [q, hoc] at e
      have q' : oc = p.2 := Option.some.inj e
      exact d w' (by rw [← q']; exact hocd)
theorem store_ok {M : Model} {A : Around} {E : Value → Shared → Prop} {i : Nat} {x : Str} {v : V} {u : Value} {Q : Unit → Shared → Prop} (I : Inv X pins σ H s) (hN : X.N.Nodup) (hi : X.N[i]? = some x) (hx : Loc X.env.scope x) (r : RelV v u)
    (h : ∀ s', Inv X pins (σ.set i (some v)) H s' → Q () s') (hf : X.fn x = true ∨ X.env.scope.names.lookup x = some .local := by first | exact .inl rfl | exact .inr rfl | assumption) : wpAny M A (storeName X.env x u) Q E s :=
  store_ok2 I hN hi hx r (fun s' I' _ => h s' I') hf
/-- behind a call or a block, the state as it is -/
theorem Inv.call' {s' : Shared} {ch : List Addr} (I : Inv X pins σ H s) (ho : s'.os = s.os) (u : Un (frs X.stack) ch H H' s.heap s'.heap) (hok : HOk X.prog X.w H' s'.heap) (hg : AllBare s'.gens)
    (hch : ∀ b ∈ ch, (b ∈ X.ex ∨ X.s₀.heap.objs.size ≤ b) ∧ b ≠ X.env.locals ∧ (∀ x c, X.env.cells.lookup x = some c → c ≠ b) ∧ ∀ p ∈ X.pn ++ pins, p.1 ≠ b) : Inv X pins σ H' s' := by
  obtain ⟨h', g', d', t', o'⟩ := s'
  have e : o' = s.os := ho
  subst e
  exact I.call (g' := g') (t' := t') (d' := d') u hok hg hch
end

/-! ### the judgements -/
/-- an exception: its class, its own dict's address (where it has one), the abstract heap behind it -/
abbrev XK := Value → Option Addr → Hp → Prop
abbrev St := List (Option V)
abbrev VK := V → Hp → Prop
/-- an expression's reading; a test's; an argument list's -/
abbrev TE := St → Hp → VK → Prop
abbrev TT := St → Hp → (Bool → Hp → Prop) → Prop
abbrev TA := St → Hp → (List V → Hp → Prop) → Prop
/-- what is wanted behind a statement -/
structure Ends where
  nx : St → Hp → Prop
  rt : VK
  bk : St → Hp → Prop := fun _ _ => False
  ct : St → Hp → Prop := fun _ _ => False
abbrev TS := Ends → St → Hp → Prop

def EP (X : Cx) (pins : List (Addr × Obj)) (σ : St) (Q : VK) (u : Value) (s' : Shared) : Prop := ∃ v H', Inv X pins σ H' s' ∧ RelV v u ∧ Q v H'
def TP (X : Cx) (pins : List (Addr × Obj)) (σ : St) (Q : Bool → Hp → Prop) (b : Bool) (s' : Shared) : Prop := ∃ H', Inv X pins σ H' s' ∧ Q b H'
def AP (X : Cx) (pins : List (Addr × Obj)) (σ : St) (Q : List V → Hp → Prop) (us : List Value) (s' : Shared) : Prop := ∃ vs H', Inv X pins σ H' s' ∧ Vals vs us ∧ Q vs H'
def SP (X : Cx) (pins : List (Addr × Obj)) (D : Ends) (f : Flow) (s' : Shared) : Prop :=
  match f with
  | .next => ∃ σ' H', Inv X pins σ' H' s' ∧ D.nx σ' H'
  | .brk => ∃ σ' H', Inv X pins σ' H' s' ∧ D.bk σ' H'
  | .cont => ∃ σ' H', Inv X pins σ' H' s' ∧ D.ct σ' H'
  | .ret u => ∃ v σ' H', Inv X pins σ' H' s' ∧ RelV v u ∧ D.rt v H'

def PE (X : Cx) (e : Expr) (t : TE) : Prop :=
  ∀ (pins : List (Addr × Obj)) (s : Shared) (σ : St) (H : Hp) (Q : VK), Inv X pins σ H s → t σ H Q → wpAny (model X.prog X.w) X.A (eval e X.env) (EP X pins σ Q) X.xe s
def PT (X : Cx) (e : Expr) (t : TT) : Prop :=
  ∀ (pins : List (Addr × Obj)) (s : Shared) (σ : St) (H : Hp) (Q : Bool → Hp → Prop), Inv X pins σ H s → t σ H Q → wpAny (model X.prog X.w) X.A (isTrue e X.env (eval e X.env)) (TP X pins σ Q) X.xe s
/-- a test whatever its 'whole' is (and, or) -/
def PW (X : Cx) (e : Expr) (t : TT) : Prop :=
  ∀ (whole : Sem Value) (pins : List (Addr × Obj)) (s : Shared) (σ : St) (H : Hp) (Q : Bool → Hp → Prop), Inv X pins σ H s → t σ H Q → wpAny (model X.prog X.w) X.A (isTrue e X.env whole) (TP X pins σ Q) X.xe s
theorem PW.pt {X : Cx} {e : Expr} {t : TT} (h : PW X e t) : PT X e t := h _
/-- an argument list (no star), from the left -/
def PA (X : Cx) (es : List Expr) (t : TA) : Prop :=
  ∀ (pos : Pos) (pins : List (Addr × Obj)) (s : Shared) (σ : St) (H : Hp) (Q : List V → Hp → Prop), Inv X pins σ H s → t σ H Q → wpAny (model X.prog X.w) X.A (spliced (backTo pos (starEach es X.env))) (AP X pins σ Q) X.xe s
def PS (X : Cx) (st : Stmt) (t : TS) : Prop :=
  ∀ (pins : List (Addr × Obj)) (s : Shared) (σ : St) (H : Hp) (D : Ends), Inv X pins σ H s → t D σ H → wpAny (model X.prog X.w) X.A (exec st X.env) (SP X pins D) X.xe s
def PSs (X : Cx) (st : List Stmt) (t : TS) : Prop :=
  ∀ (pins : List (Addr × Obj)) (s : Shared) (σ : St) (H : Hp) (D : Ends), Inv X pins σ H s → t D σ H → wpAny (model X.prog X.w) X.A (execs st X.env) (SP X pins D) X.xe s
/-- weaken the end -/
theorem thn {α : Type} {t : Sem α} {Q Q' : α → Shared → Prop} {M : Model} {A : Around} {E : Value → Shared → Prop} {s : Shared} (h : wpAny M A t Q E s) (hQ : ∀ a s, Q a s → Q' a s) : wpAny M A t Q' E s := wpAny_mono h hQ fun _ _ x => x
end L2

namespace L2
open PySem PySem.Spec PyProof.Rows
section
variable {X : Cx}


/-! ### names and constants -/
def tVar (i : Nat) : TE := fun σ H Q => ∃ v, σ[i]? = some (some v) ∧ Q v H
def tC (v : V) : TE := fun _ H Q => Q v H
theorem pe_var {i : Nat} {x : Str} {pos : Pos} (hN : X.N[i]? = some x) (hv : Vis X.env.scope x) (hd : (x == ("__debug__" : Str)) = false := by decide) (hcd : (x == ("__classdict__" : Str)) = false := by decide) : PE X (.Name x pos) (tVar i) := by
  intro pins s σ H Q I h
  obtain ⟨v, e, h⟩ := h
  obtain ⟨m, hn, hl⟩ := I.loc
  obtain ⟨u, r, l⟩ := hl i x v hN e hv
  have fin : EP X pins σ Q u s := ⟨v, H, I, r, h⟩
  rcases l with ⟨hk, hm⟩ | ⟨hk, c, hc, hcell⟩
  · exact wpAny_Name (wpAny_loadName_local I.ok.kind hk hn hm fin) hd
  · rcases hk with hk | hk
    · exact wpAny_Name (wpAny_loadName_cell I.ok.kind hk hc hcell fin) hd
    · exact wpAny_Name (wpAny_loadName_free I.ok.kind hk hc hcell fin hcd) hd
theorem pe_int {i j pos} : PE X (.Constant (.int i) j pos) (tC (.int i)) := fun _ _ _ H _ I h => wpAny_Constant_int ⟨.int i, H, I.tok _, ⟨_, rfl⟩, h⟩
theorem pe_bl {b j pos} : PE X (.Constant (.bool b) j pos) (tC (.bl b)) := fun _ _ _ H _ I h => Constant_bool ⟨.bl b, H, I, rfl, h⟩
theorem pe_non {j pos} : PE X (.Constant .none j pos) (tC .non) := fun _ _ _ H _ I h => Constant_none ⟨.non, H, I, rfl, h⟩
theorem pe_str {x j pos} : PE X (.Constant (.str x) j pos) (tC (.str x)) := fun _ _ _ H _ I h => Calls.Constant_str ⟨.str x, H, I.tok _, ⟨_, rfl⟩, h⟩

/-- a global name of the def -/
def Gl (X : Cx) (x : Str) : Prop := X.env.kindOf x = some .globalImplicit
theorem ld_glob {E : Value → Shared → Prop} {pins : List (Addr × Obj)} {s : Shared} {σ : St} {H : Hp} {x : Str} {u : Value} {pos : Pos} {Q : Value → Shared → Prop} (I : Inv X pins σ H s) (hg : Gl X x) (hm : X.mg x = some u) (h : Q u s)
    (hd : (x == ("__debug__" : Str)) = false := by decide) : wpAny (model X.prog X.w) X.A (eval (.Name x pos) X.env) Q E s :=
  Calls.Name_function_global I.ok.kind hg (Calls.loadGlobal_global (by rw [I.ok.glob]; exact I.mod.glob.keeps I.bk) hm h) hd
theorem ld_blt {E : Value → Shared → Prop} {pins : List (Addr × Obj)} {s : Shared} {σ : St} {H : Hp} {x : Str} {u : Value} {pos : Pos} {Q : Value → Shared → Prop} (I : Inv X pins σ H s) (hg : Gl X x) (hm : X.mg x = none) (hv : bootBuiltins x = some u) (h : Q u s)
    (hn : x ≠ "__name__" := by decide) (hd : (x == ("__debug__" : Str)) = false := by decide) : wpAny (model X.prog X.w) X.A (eval (.Name x pos) X.env) Q E s := by
  obtain ⟨mb, h1, h2⟩ := I.mod.blt
  exact Calls.Name_function_global I.ok.kind hg (Calls.loadGlobal_builtin (by rw [I.ok.glob]; exact I.mod.glob.keeps I.bk) hm (by rw [I.ok.blt]; exact h1.keeps I.bk) ((h2 x hn).trans hv) h) hd
/-- a module's constant, a class, a function, as a value -/
theorem pe_glob {x : Str} {v : V} {u : Value} {pos : Pos} (hg : Gl X x) (hm : X.mg x = some u) (r : RelV v u) (hd : (x == ("__debug__" : Str)) = false := by decide) : PE X (.Name x pos) (tC v) :=
  fun _ _ _ H _ I h => ld_glob I hg hm ⟨v, H, I, r, h⟩ hd
theorem pe_bltn {x : Str} {v : V} {u : Value} {pos : Pos} (hg : Gl X x) (hm : X.mg x = none) (hv : bootBuiltins x = some u) (r : RelV v u) (hn : x ≠ "__name__" := by decide) (hd : (x == ("__debug__" : Str)) = false := by decide) : PE X (.Name x pos) (tC v) :=
  fun _ _ _ H _ I h => ld_blt I hg hm hv ⟨v, H, I, r, h⟩ hn hd

/-! ### arithmetic -/
/-- two ints -/
def t2I (ta tb : TE) (k : Int → Int → Hp → Prop) : St → Hp → Prop := fun σ H => ta σ H fun x H1 => tb σ H1 fun y H2 => ∃ i j, x = .int i ∧ y = .int j ∧ k i j H2
def tAdd (ta tb : TE) : TE := fun σ H Q => t2I ta tb (fun i j H2 => Q (.int (i + j)) H2) σ H
def tSub (ta tb : TE) : TE := fun σ H Q => t2I ta tb (fun i j H2 => Q (.int (i - j)) H2) σ H
/-- the left factor below 2^64 -/
def tMul (ta tb : TE) : TE := fun σ H Q => t2I ta tb (fun i j H2 => (-(2 ^ 64) < i ∧ i < 2 ^ 64) ∧ Q (.int (i * j)) H2) σ H
variable {a b : Expr} {ta tb : TE} {pos : Pos}

/-! ### comparisons -/
def PC (X : Cx) (op : CmpOp) (a b : Expr) (t : TE) : Prop :=
  ∀ (pins : List (Addr × Obj)) (s : Shared) (σ : St) (H : Hp) (Q : VK), Inv X pins σ H s → t σ H Q →
    wpAny (model X.prog X.w) X.A (eval a X.env) (fun v s₁ => wpAny (model X.prog X.w) X.A (eval b X.env) (fun u s₂ => wpAny (model X.prog X.w) X.A (compareOp op v u) (EP X pins σ Q) X.xe s₂) X.xe s₁) X.xe s
def tCmp (p : Int → Int → Bool) (ta tb : TE) : TE := fun σ H Q => t2I ta tb (fun i j H2 => Q (.bl (p i j)) H2) σ H
abbrev tLt : TE → TE → TE := tCmp fun i j => decide (i < j)
abbrev tLe : TE → TE → TE := tCmp fun i j => decide (i ≤ j)
abbrev tGt : TE → TE → TE := tCmp fun i j => decide (j < i)
abbrev tGe : TE → TE → TE := tCmp fun i j => decide (j ≤ i)
abbrev tEqI : TE → TE → TE := tCmp fun i j => decide (i = j)
abbrev tNeI : TE → TE → TE := tCmp fun i j => !decide (i = j)
/-- is None -/
def tIsN (ta : TE) : TE := fun σ H Q => ta σ H fun x H1 => Q (.bl (decide (x = .non))) H1
def tNotN (ta : TE) : TE := fun σ H Q => ta σ H fun x H1 => Q (.bl (!decide (x = .non))) H1
/-- a comparison as a value, as a test -/
def tB (t : TE) : TT := fun σ H Q => t σ H fun x H1 => ∃ c, x = .bl c ∧ Q c H1
theorem pt_cmp {op : CmpOp} {t : TE} (h : PC X op a b t) (h1 : behindInMarks op b = false := by first | exact nobehind _ (by decide) (by decide) | rfl) : PT X (.Compare a [op] [b] pos) (tB t) := by
  intro pins s σ H Q I hw
  refine wpAny_isTrue_Compare1 (thn (h pins s σ H _ I hw) fun v s1 h1 => thn h1 fun u s2 h2 => thn h2 fun c s3 ⟨x, H1, I1, r1, q1⟩ => ?_) h1
  obtain ⟨d, rfl, q⟩ := q1
  cases r1
  exact wpAny_truthy_bool ⟨H1, I1, q⟩
/-- an expression whose value is a bool, as a test -/
theorem pt_val {e : Expr} {t : TE} (h : PE X e t) (he : ∀ whole, isTrue e X.env whole = (do let v ← whole; standAt e.pos; holding [v] (truthy v)) := by intro _; rfl) : PT X e (tB t) := by
  intro pins s σ H Q I hw
  refine isTrue_plain (thn (h pins s σ H _ I hw) fun v s1 ⟨x, H1, I1, r1, q1⟩ => ?_) (he _)
  obtain ⟨d, rfl, q⟩ := q1
  cases r1
  exact wpAny_truthy_bool ⟨H1, I1, q⟩

/-! ### and, or, not -/
variable {tA tB' : TT} {rest : List Expr}
def tAnd (t u : TT) : TT := fun σ H Q => t σ H fun c H1 => if c = true then u σ H1 Q else Q false H1
def tOr (t u : TT) : TT := fun σ H Q => t σ H fun c H1 => if c = true then Q true H1 else u σ H1 Q
def tNot (t : TT) : TT := fun σ H Q => t σ H fun c H1 => Q (!c) H1
theorem pw_and1 (ha : PT X a tA) : PW X (.BoolOp .And [a] pos) tA := by
  intro wh pins s σ H Q I h
  refine isTrue_and (thn (ha pins s σ H Q I h) fun c s1 e => ?_)
  cases c with
  | true => exact isTrue_and_nil e
  | false => exact e
theorem pw_or1 (ha : PT X a tA) : PW X (.BoolOp .Or [a] pos) tA := by
  intro wh pins s σ H Q I h
  refine isTrue_or (thn (ha pins s σ H Q I h) fun c s1 e => ?_)
  cases c with
  | false => exact isTrue_or_nil e
  | true => exact e
theorem pw_and (ha : PT X a tA) (hb : PW X (.BoolOp .And (b :: rest) pos) tB') : PW X (.BoolOp .And (a :: b :: rest) pos) (tAnd tA tB') := by
  intro wh pins s σ H Q I h
  refine isTrue_and (thn (ha pins s σ H _ I h) fun c s1 ⟨H1, I1, q1⟩ => ?_)
  cases c with
  | true => exact hb wh pins s1 σ H1 Q I1 q1
  | false => exact ⟨H1, I1, q1⟩
theorem pw_or (ha : PT X a tA) (hb : PW X (.BoolOp .Or (b :: rest) pos) tB') : PW X (.BoolOp .Or (a :: b :: rest) pos) (tOr tA tB') := by
  intro wh pins s σ H Q I h
  refine isTrue_or (thn (ha pins s σ H _ I h) fun c s1 ⟨H1, I1, q1⟩ => ?_)
  cases c with
  | true => exact ⟨H1, I1, q1⟩
  | false => exact hb wh pins s1 σ H1 Q I1 q1
theorem pt_not (ha : PT X a tA) : PT X (.UnaryOp .Not a pos) (tNot tA) := by
  intro pins s σ H Q I h
  exact isTrue_not (ha pins s σ H (fun c H1 => Q (!c) H1) I h)
/-- .. as values (bools) -/
def tAndV (ta tb : TE) : TE := fun σ H Q => ta σ H fun x H1 => ∃ c, x = .bl c ∧ if c = true then tb σ H1 Q else Q (.bl false) H1
def tOrV (ta tb : TE) : TE := fun σ H Q => ta σ H fun x H1 => ∃ c, x = .bl c ∧ if c = true then Q (.bl true) H1 else tb σ H1 Q
def tNotV (ta : TE) : TE := fun σ H Q => ta σ H fun x H1 => ∃ c, x = .bl c ∧ Q (.bl (!c)) H1
theorem pe_one {op} {t : TE} (h : PE X a t) : PE X (.BoolOp op [a] pos) t := fun pins s σ H Q I hw => BoolOp_one (h pins s σ H Q I hw)
theorem pe_or (ha : PE X a ta) (hb : PE X (.BoolOp .Or (b :: rest) pos) tb) : PE X (.BoolOp .Or (a :: b :: rest) pos) (tOrV ta tb) := by
  intro pins s σ H Q I h
  refine BoolOp_or (thn (ha pins s σ H _ I h) fun v s1 ⟨x, H1, I1, r1, q1⟩ => ?_)
  obtain ⟨c, rfl, q1⟩ := q1
  cases r1
  refine wpAny_truthy_bool ?_
  cases c with
  | false => exact hb pins s1 σ H1 Q I1 q1
  | true => exact ⟨.bl true, H1, I1, rfl, q1⟩
theorem pe_not (ha : PE X a ta) : PE X (.UnaryOp .Not a pos) (tNotV ta) := by
  intro pins s σ H Q I h
  refine UnaryOp_ (thn (ha pins s σ H _ I h) fun v s1 ⟨x, H1, I1, r1, q1⟩ => ?_)
  obtain ⟨c, rfl, q1⟩ := q1
  cases r1
  exact not_of (wpAny_truthy_bool ⟨.bl (!c), H1, I1, rfl, q1⟩)
/-- a if t else b -/
def tIf (t : TT) (ta tb : TE) : TE := fun σ H Q => t σ H fun c H1 => if c = true then ta σ H1 Q else tb σ H1 Q
theorem pe_ifExp {c : Expr} (hc : PT X c tA) (ha : PE X a ta) (hb : PE X b tb) : PE X (.IfExp c a b pos) (tIf tA ta tb) := by
  intro pins s σ H Q I h
  refine wpAny_IfExp (thn (hc pins s σ H _ I h) fun d s1 ⟨H1, I1, q1⟩ => ?_)
  cases d with
  | true => exact ha pins s1 σ H1 Q I1 q1
  | false => exact hb pins s1 σ H1 Q I1 q1
end
end L2

namespace L2
open PySem PySem.Spec PyProof.Rows

/-! ### a list, a tuple that is read: tracked, frozen, or an object of the module -/
def SqL (K : PySem.W.Frag) (H : Hp) (a : Addr) (xs : List V) : Prop :=
  Rd H a (.lst xs) ∨
    ∃ (o : Obj) (its : Array Value) (n : Nat), K.lookup a = some o ∧ o.cls = .type "list" ∧ o.dict = none ∧ o.data = .seq its n ∧ its.size ≤ sizeLine ∧ Vals xs its.toList
def SqT (K : PySem.W.Frag) (H : Hp) (a : Addr) (xs : List V) : Prop :=
  Rd H a (.tup xs) ∨
    ∃ (o : Obj) (its : Array Value) (n : Nat), K.lookup a = some o ∧ o.cls = .type "tuple" ∧ o.data = .seq its n ∧ its.size ≤ sizeLine ∧ Vals xs its.toList
def absV : Value → Option V
  | .none => some .non
  | .bool b => some (.bl b)
  | .int i _ => some (.int i)
  | .str x _ => some (.str x)
  | .bytes b _ => some (.byt b)
  | .float b _ => some (.flt b)
  | .ref a => some (.ref a)
  | .type n => some (.ty n)
  | _ => none
theorem RelV.abs {x : V} {u : Value} (r : RelV x u) : absV u = some x := by
  cases x with
  | non => cases r; rfl
  | bl _ => cases r; rfl
  | int _ => obtain ⟨t, rfl⟩ := r; rfl
  | str _ => obtain ⟨t, rfl⟩ := r; rfl
  | byt _ => obtain ⟨t, rfl⟩ := r; rfl
  | flt _ => obtain ⟨t, rfl⟩ := r; rfl
  | ref _ => cases r; rfl
  | ty _ => cases r; rfl
theorem RelV.inj {x y : V} {u : Value} (r : RelV x u) (q : RelV y u) : x = y := Option.some.inj (r.abs.symm.trans q.abs)
theorem Vals.inj : ∀ {xs ys : List V} {us : List Value}, Vals xs us → Vals ys us → xs = ys
  | _, _, _, .nil, .nil => rfl
  | _, _, _, .cons r t, .cons r' t' => by rw [r.inj r', Vals.inj t t']
section
variable {X : Cx} {pins : List (Addr × Obj)} {σ : St} {H : Hp} {s : Shared} {a : Addr} {xs ys : List V}
theorem SqL.of {K : PySem.W.Frag} (h : H a = some (.lst xs)) : SqL K H a xs := .inl (.inl h)
theorem SqT.of {K : PySem.W.Frag} (h : H a = some (.tup xs)) : SqT K H a xs := .inl (.inl h)
theorem Inv.list (I : Inv X pins σ H s) (h : SqL X.K H a xs) : ∃ its : List Value, Vals xs its ∧ PlainL s.heap a its.toArray ∧ xs.length ≤ sizeLine := by
  rcases h with h | ⟨o, its, n, hk, hc, hd, hs, hz, r⟩
  · obtain ⟨z, its, n, r, e⟩ := h.ok I.hok
    exact ⟨its, r, ⟨_, n, e, rfl, rfl, rfl⟩, z⟩
  · refine ⟨its.toList, r, ⟨o, n, I.kIn a o hk, hc, hd, by simpa using hs⟩, ?_⟩
    have e := r.length
    simp only [Array.length_toList] at e
    omega
theorem Inv.tuple (I : Inv X pins σ H s) (h : SqT X.K H a xs) : ∃ its : List Value, Vals xs its ∧ IsTup s.heap a its.toArray ∧ xs.length ≤ sizeLine := by
  rcases h with h | ⟨o, its, n, hk, hc, hs, hz, r⟩
  · obtain ⟨z, its, r, p⟩ := h.ok I.hok
    exact ⟨its, r, p, z⟩
  · refine ⟨its.toList, r, ⟨o, I.kIn a o hk, hc, n, by simpa using hs⟩, ?_⟩
    have e := r.length
    simp only [Array.length_toList] at e
    omega
theorem Inv.list_inj (I : Inv X pins σ H s) (h : SqL X.K H a xs) (h' : SqL X.K H a ys) : xs = ys := by
  obtain ⟨its, r, ⟨o, n, e, _, _, d⟩, _⟩ := I.list h
  obtain ⟨its', r', ⟨o', n', e', _, _, d'⟩, _⟩ := I.list h'
  rw [e] at e'; cases e'
  rw [d] at d'
  injection d' with d1 _
  have : its = its' := by simpa using congrArg Array.toList d1
  subst this
  exact r.inj r'
end

/-! ### another wish about exceptions -/
abbrev Cx.wish (X : Cx) (E : Value → Shared → Prop) : Cx := { X with xe := E }
/-- no exception leaves -/
abbrev Cx.nox (X : Cx) : Cx := X.wish fun _ _ => False
theorem Cx.Ok.wish {X : Cx} (ok : X.Ok) (E : Value → Shared → Prop) : (X.wish E).Ok :=
  ⟨ok.mod, ok.kind, ok.glob, ok.blt, ok.above, ok.inj, ok.has, ok.cab, ok.hd, ok.frames, ok.stk, ok.exf, ok.bs, ok.bsz, ok.noex, ok.exfs, ok.funs, ok.frf⟩
theorem Cx.Ok.unwish {X : Cx} {E : Value → Shared → Prop} (ok : (X.wish E).Ok) : X.Ok :=
  ⟨ok.mod, ok.kind, ok.glob, ok.blt, ok.above, ok.inj, ok.has, ok.cab, ok.hd, ok.frames, ok.stk, ok.exf, ok.bs, ok.bsz, ok.noex, ok.exfs, ok.funs, ok.frf⟩
section
variable {X : Cx} {pins : List (Addr × Obj)} {σ : St} {H : Hp} {s : Shared} {E : Value → Shared → Prop}
theorem Inv.wish (I : Inv X pins σ H s) (E : Value → Shared → Prop) : Inv (X.wish E) pins σ H s := ⟨I.ok.wish E, I.os, I.bare, I.base, I.loc, I.cell, I.free, I.freeC, I.pin, I.hok, I.len⟩
theorem Inv.unwish (I : Inv (X.wish E) pins σ H s) : Inv X pins σ H s := ⟨I.ok.unwish, I.os, I.bare, I.base, I.loc, I.cell, I.free, I.freeC, I.pin, I.hok, I.len⟩
theorem SP.unwish {D : Ends} {f : Flow} {s' : Shared} (h : SP (X.wish E) pins D f s') : SP X pins D f s' := by
  cases f with
  | next => obtain ⟨σ', H', I, q⟩ := h; exact ⟨σ', H', I.unwish, q⟩
  | brk => obtain ⟨σ', H', I, q⟩ := h; exact ⟨σ', H', I.unwish, q⟩
  | cont => obtain ⟨σ', H', I, q⟩ := h; exact ⟨σ', H', I.unwish, q⟩
  | ret u => obtain ⟨v, σ', H', I, r, q⟩ := h; exact ⟨v, σ', H', I.unwish, r, q⟩
theorem PSs.nox {st : List Stmt} {t : TS} (h : PSs X.nox st t) : PSs X st t := fun pins s σ H D I hw =>
  wpAny_mono (h pins s σ H D (I.wish _) hw) (fun _ _ q => q.unwish) fun _ _ z => False.elim z
end

/-! ### blocks and small statements -/
section
variable {X : Cx} {st : Stmt} {rest : List Stmt} {t u : TS} {e : Expr} {te : TE} {pos : Pos}
def tNext : TS := fun D σ H => D.nx σ H
def tSeq (t u : TS) : TS := fun D σ H => t { D with nx := u D } σ H
theorem pss_nil : PSs X [] tNext := fun _ _ σ H _ I h => wpAny_execs_nil ⟨σ, H, I, h⟩
theorem pss_cons (h1 : PS X st t) (h2 : PSs X rest u) : PSs X (st :: rest) (tSeq t u) := by
  intro pins s σ H D I h
  refine wpAny_execs_cons (thn (h1 pins s σ H { D with nx := u D } I h) fun f s1 q => ?_)
  cases f with
  | next =>
    obtain ⟨σ', H', I', q⟩ := q
    exact h2 pins s1 σ' H' D I' q
  | ret v => exact q
  | brk => exact q
  | cont => exact q
theorem pss_one (h1 : PS X st t) : PSs X [st] t := by
  intro pins s σ H D I h
  refine wpAny_execs_cons (thn (h1 pins s σ H D I h) fun f s1 q => ?_)
  cases f with
  | next => exact wpAny_execs_nil q
  | ret v => exact q
  | brk => exact q
  | cont => exact q
def tBreak : TS := fun D σ H => D.bk σ H
def tCont : TS := fun D σ H => D.ct σ H
/-- in a def's body nothing is shown -/
theorem Inv.quiet {pins : List (Addr × Obj)} {σ : St} {H : Hp} {s : Shared} (I : Inv X pins σ H s) : interactive X.env = false := by simp [interactive, I.ok.kind]
/-- an expression whose value is dropped -/
def tDrop (te : TE) : TS := fun D σ H => te σ H fun _ H1 => D.nx σ H1
theorem ps_expr (he : PE X e te) (hs : swapsWith e none pos.line X.env = pure false := by rfl) : PS X (.Expr e pos) (tDrop te) := by
  intro pins s σ H D I h
  exact wpAny_Expr_any (thn (he pins s σ H _ I h) fun v s1 ⟨x, H1, I1, r1, q1⟩ => ⟨σ, H1, I1, q1⟩) I.quiet hs
def tRet (te : TE) : TS := fun D σ H => te σ H D.rt
theorem ps_ret (he : PE X e te) : PS X (.Return (some e) pos) (tRet te) := by
  intro pins s σ H D I h
  exact wpAny_Return_some (thn (he pins s σ H _ I h) fun v s1 ⟨x, H1, I1, r1, q1⟩ => ⟨x, σ, H1, I1, r1, q1⟩)
def tRetN : TS := fun D _ H => D.rt .non H
def tIfS (c : TT) (t u : TS) : TS := fun D σ H => c σ H fun b H1 => if b = true then t D σ H1 else u D σ H1
theorem ps_if {c : Expr} {a b : List Stmt} {tc : TT} (hc : PT X c tc) (ha : PSs X a t) (hb : PSs X b u) : PS X (.If c a b pos) (tIfS tc t u) := by
  intro pins s σ H D I h
  refine wpAny_If (thn (hc pins s σ H _ I h) fun d s1 ⟨H1, I1, q1⟩ => ?_)
  cases d with
  | true => exact ha pins s1 σ H1 D I1 q1
  | false => exact hb pins s1 σ H1 D I1 q1
/-- code that the proof never comes to -/
def tNever : TS := fun _ _ _ => False
theorem pss_never {sts : List Stmt} : PSs X sts tNever := fun _ _ _ _ _ _ h => h.elim
end

/-! ### targets -/
abbrev TG := V → St → Hp → (St → Hp → Prop) → Prop
abbrev TGs := List V → St → Hp → (St → Hp → Prop) → Prop
def PG (X : Cx) (target : Expr) (t : TG) : Prop :=
  ∀ (pins : List (Addr × Obj)) (s : Shared) (σ : St) (H : Hp) (v : V) (u : Value) (Q : St → Hp → Prop), Inv X pins σ H s → RelV v u → t v σ H Q →
    wpAny (model X.prog X.w) X.A (assign target X.env u) (fun _ s' => ∃ σ' H', Inv X pins σ' H' s' ∧ Q σ' H') X.xe s
/-- several targets, one after another -/
def PGs (X : Cx) (ts : List Expr) (t : TGs) : Prop :=
  ∀ (pins : List (Addr × Obj)) (s : Shared) (σ : St) (H : Hp) (vs : List V) (us : List Value) (Q : St → Hp → Prop), Inv X pins σ H s → Vals vs us → t vs σ H Q →
    wpAny (model X.prog X.w) X.A (assignInOrder ((assignEach ts X.env).map (·.2)) us) (fun _ s' => ∃ σ' H', Inv X pins σ' H' s' ∧ Q σ' H') X.xe s
/-- o[i] = v, by values -/
abbrev TSet := V → V → V → Hp → (Hp → Prop) → Prop
def PSet (X : Cx) (t : TSet) : Prop :=
  ∀ (pins : List (Addr × Obj)) (s : Shared) (σ : St) (H : Hp) (o i v : V) (ov iv u : Value) (Q : Hp → Prop), Inv X pins σ H s → RelV o ov → RelV i iv → RelV v u → t o i v H Q →
    wpAny (model X.prog X.w) X.A (setItem ov iv u) (fun _ s' => ∃ H', Inv X pins σ H' s' ∧ Q H') X.xe s
/-- a op= b, by values -/
abbrev TIp := V → V → Hp → VK → Prop
def PIp (X : Cx) (op : Operator) (t : TIp) : Prop :=
  ∀ (pins : List (Addr × Obj)) (s : Shared) (σ : St) (H : Hp) (x y : V) (v u : Value) (Q : VK), Inv X pins σ H s → RelV x v → RelV y u → t x y H Q →
    wpAny (model X.prog X.w) X.A (inplaceOp op v u) (EP X pins σ Q) X.xe s
section
variable {X : Cx} {pos : Pos}
def gName (i : Nat) : TG := fun v σ H Q => Q (σ.set i (some v)) H
theorem pg_name {i : Nat} {x : Str} (hN : X.N.Nodup) (hi : X.N[i]? = some x) (hx : Loc X.env.scope x) (hf : X.fn x = true ∨ X.env.scope.names.lookup x = some .local := by first | exact .inl rfl | exact .inr rfl | assumption) : PG X (.Name x pos) (gName i) := by
  intro pins s σ H v u Q I r h
  exact wpAny_assign_Name (store_ok I hN hi hx r (fun s' I' => ⟨_, H, I', h⟩) hf)
def gNil : TGs := fun vs σ H Q => vs = [] ∧ Q σ H
def gCons (t : TG) (u : TGs) : TGs := fun vs σ H Q => ∃ v r, vs = v :: r ∧ t v σ H fun σ' H' => u r σ' H' Q
theorem pgs_nil : PGs X [] gNil := by
  intro pins s σ H vs us Q I r h
  obtain ⟨e, h⟩ := h
  subst e
  cases r
  exact assignInOrder_nil ⟨σ, H, I, h⟩
theorem pgs_cons {e : Expr} {es : List Expr} {t : TG} {u : TGs} (h1 : PG X e t) (h2 : PGs X es u)
    (hs : (assignEach (e :: es) X.env).map (·.2) = assign e X.env :: (assignEach es X.env).map (·.2) := by rfl) : PGs X (e :: es) (gCons t u) := by
  intro pins s σ H vs us Q I r h
  obtain ⟨v, vr, e1, h⟩ := h
  subst e1
  cases r with
  | cons r rr =>
    rw [hs]
    refine assignInOrder_cons (thn (h1 pins s σ H _ _ _ I r h) fun _ s1 ⟨σ1, H1, I1, q1⟩ => ?_)
    exact h2 pins s1 σ1 H1 _ _ Q I1 rr q1
/-- (a, b, ..) = a tuple of that length -/
def gTup (K : PySem.W.Frag) (n : Nat) (t : TGs) : TG := fun v σ H Q => ∃ a xs, v = .ref a ∧ SqT K H a xs ∧ xs.length = n ∧ t xs σ H Q
theorem pg_tup {es : List Expr} {k : Nat} {t : TGs} {n : Nat} (hc : X.calm = true) (h : PGs X es t)
    (hn : (assignEach es X.env).length = n := by rfl) (hst : (assignEach es X.env).findIdx? (·.1) = none := by rfl) : PG X (.Tuple es k pos) (gTup X.K n t) := by
  intro pins s σ H v u Q I r hw
  obtain ⟨a, xs, e1, hq, hl, hw⟩ := hw
  subst e1
  cases r
  obtain ⟨its, rv, ht, hz⟩ := I.tuple hq
  refine assign_Tuple_tuple (I.ok.hd hc) ht (by simp [hn, ← hl, rv.length]) hst fun h' hx => ?_
  have I1 : Inv X pins σ H { s with heap := h' } := I.kept (t' := s.toks) fun b o e => hx b o (Nat.ne_of_lt (Heap.lt_size e)) e
  exact h pins _ σ H xs _ Q I1 (by simpa using rv) hw
/-- o[i] = .. -/
def gSub (to ti : TE) (t : TSet) : TG := fun v σ H Q => to σ H fun o H1 => ti σ H1 fun i H2 => t o i v H2 fun H3 => Q σ H3
/-- target = value -/
def tAsg (te : TE) (g : TG) : TS := fun D σ H => te σ H fun x H1 => g x σ H1 D.nx
theorem ps_asg {tg e : Expr} {te : TE} {g : TG} (he : PE X e te) (hg : PG X tg g) (hs : swapsWithSole [tg] e pos.line X.env = pure false := by rfl) (hw : swappedStores [tg] e X.env = pure none := by rfl)
    (h1 : (assignEach [tg] X.env).map (·.2) = [assign tg X.env] := by rfl) : PS X (.Assign [tg] e pos) (tAsg te g) := by
  intro pins s σ H D I h
  refine wpAny_Assign_stores (thn (he pins s σ H _ I h) fun v s1 ⟨x, H1, I1, r1, q1⟩ => ?_) hs hw
  rw [h1]
  exact thn (hg pins s1 σ H1 x v _ I1 r1 q1) fun _ s2 q => q
/-- name = value -/
theorem ps_set {i : Nat} {x : Str} {e : Expr} {te : TE} {pos' : Pos} (hN : X.N.Nodup) (hi : X.N[i]? = some x) (hx : Loc X.env.scope x) (he : PE X e te) (hs : swapsWith e (some (.Name x pos')) pos.line X.env = pure false := by rfl) (hf : X.fn x = true ∨ X.env.scope.names.lookup x = some .local := by first | exact .inl rfl | exact .inr rfl | assumption) :
    PS X (.Assign [.Name x pos'] e pos) (tAsg te (gName i)) := by
  intro pins s σ H D I h
  refine wpAny_Assign_Name (thn (he pins s σ H _ I h) fun v s1 ⟨y, H1, I1, r1, q1⟩ => ?_) hs
  exact store_ok I1 hN hi hx r1 (fun s2 I2 => ⟨_, H1, I2, q1⟩) hf
/-- a, b = x, y with plain local names: stored from the right; the pair itself is not tracked (the opening rows as in PyProof/Rows/TupAssign.lean:23) -/
def tPar (i j : Nat) (ta : TA) : TS := fun D σ H => ta σ H fun vs H1 => ∃ v w, vs = [v, w] ∧ D.nx ((σ.set i (some v)).set j (some w)) H1
/-- name op= e -/
def tAug (i : Nat) (te : TE) (ti : TIp) : TS := fun D σ H => ∃ x, σ[i]? = some (some x) ∧ te σ H fun y H1 => ti x y H1 fun z H2 => D.nx (σ.set i (some z)) H2
theorem ps_aug {i : Nat} {x : Str} {e : Expr} {te : TE} {op : Operator} {ti : TIp} {pos' : Pos} (hN : X.N.Nodup) (hi : X.N[i]? = some x) (hx : Loc X.env.scope x) (he : PE X e te) (ho : PIp X op ti) (hf : X.fn x = true ∨ X.env.scope.names.lookup x = some .local := by first | exact .inl rfl | exact .inr rfl | assumption) :
    PS X (.AugAssign (.Name x pos') op e pos) (tAug i te ti) := by
  intro pins s σ H D I h
  obtain ⟨v, e1, h⟩ := h
  obtain ⟨m, hn, hl⟩ := I.loc
  have vis : Vis X.env.scope x := by rcases hx with k | k; exact .inl k; exact .inr (.inl k)
  obtain ⟨u, r, l⟩ := hl i x v hi e1 vis
  refine wpAny_AugAssign_Name ?_
  have go : wpAny (model X.prog X.w) X.A (eval e X.env) (fun w s₂ => wpAny (model X.prog X.w) X.A (inplaceOp op u w) (fun r s₃ => wpAny (model X.prog X.w) X.A (storeName X.env x r) (fun _ => SP X pins D .next) X.xe s₃) X.xe s₂) X.xe s := by
    refine thn (he pins s σ H _ I h) fun w s1 ⟨y, H1, I1, r1, q1⟩ => ?_
    refine thn (ho pins s1 σ H1 v y u w _ I1 r r1 q1) fun z s2 ⟨zv, H2, I2, r2, q2⟩ => ?_
    exact store_ok I2 hN hi hx r2 (fun s3 I3 => ⟨_, H2, I3, q2⟩) hf
  rcases l with ⟨hk, hm⟩ | ⟨hk, c, hc, hcell⟩
  · exact wpAny_loadName_local I.ok.kind hk hn hm go
  · rcases hk with hk | hk
    · exact wpAny_loadName_cell I.ok.kind hk hc hcell go
    · rcases hx with k | k
      · have : X.env.scope.names.lookup x = some .free := hk
        rw [k] at this; cases this
      · have : X.env.scope.names.lookup x = some .free := hk
        rw [k] at this; cases this
/-- o[i] op= e -/
def tAugS (to ti te : TE) (tget : V → V → Hp → VK → Prop) (tip : TIp) (tset : TSet) : TS := fun D σ H => to σ H fun o H1 => ti σ H1 fun i H2 => tget o i H2 fun x H3 => te σ H3 fun y H4 => tip x y H4 fun z H5 => tset o i z H5 fun H6 => D.nx σ H6
/-- o[i], by values -/
def PGet (X : Cx) (t : V → V → Hp → VK → Prop) : Prop :=
  ∀ (pins : List (Addr × Obj)) (s : Shared) (σ : St) (H : Hp) (o i : V) (ov iv : Value) (Q : VK), Inv X pins σ H s → RelV o ov → RelV i iv → t o i H Q →
    wpAny (model X.prog X.w) X.A (getItem ov iv) (EP X pins σ Q) X.xe s
/-- ints -/
def ipI (f : Int → Int → Int) : TIp := fun x y H Q => ∃ i j, x = .int i ∧ y = .int j ∧ Q (.int (f i j)) H
theorem ip_add : PIp X .Add (ipI fun i j => i + j) := by
  intro pins s σ H x y v u Q I r1 r2 h
  obtain ⟨i, j, e1, e2, q⟩ := h
  subst e1; subst e2
  obtain ⟨t, rfl⟩ := r1
  obtain ⟨t', rfl⟩ := r2
  exact iadd_int ⟨.int _, H, I.tok _, ⟨_, rfl⟩, q⟩
end

/-! ### while -/
section
variable {X : Cx} {pos : Pos}
/-- the invariant W with its measure -/
def tWhile (c : TT) (tb : TS) : TS := fun D σ H => ∃ W : Nat → St → Hp → Prop, (∃ m, W m σ H) ∧ ∀ m σ H, W m σ H →
  c σ H fun b H1 => if b = true then ∃ N : St → Hp → Prop, (∀ σ' H', N σ' H' → ∃ m', m' < m ∧ W m' σ' H') ∧ tb { D with nx := N, ct := N, bk := D.nx } σ H1 else D.nx σ H1
end

/-! ### what a loop or a comprehension walks -/
/-- at turn i: it yields x (the heap may grow), or it stops -/
structure It where
  go : Nat → Hp → Prop
  yld : Nat → Hp → V → Hp → Prop
  stop : Nat → Hp → Prop
/-- the iterator's own objects may turn: they are not the frame's, not pinned, younger than the entry (or a comprehension's own) -/
def FpOk (X : Cx) (pins : List (Addr × Obj)) (H : Hp) (b : Addr) : Prop :=
  H b = none ∧ b ≠ X.env.locals ∧ b ∉ X.fs ∧ (b ∈ X.ex ∨ X.s₀.heap.objs.size ≤ b) ∧ (∀ x c, X.env.cells.lookup x = some c → c ≠ b) ∧ ∀ p ∈ X.pn ++ pins, p.1 ≠ b
theorem Inv.fpOk {X : Cx} {pins : List (Addr × Obj)} {σ : St} {H H' : Hp} {s : Shared} {b : Addr} (I : Inv X pins σ H s) (hb : s.heap.objs.size ≤ b) (hn : H' b = none) : FpOk X pins H' b := by
  refine ⟨hn, Nat.ne_of_gt (Nat.lt_of_lt_of_le I.lt hb), I.nofs hb, .inr (Nat.le_trans I.sz hb), fun x c e z => ?_, fun p hp z => ?_⟩
  · obtain ⟨v, q⟩ := I.cell x c e
    exact absurd (Nat.lt_of_lt_of_le q.lt (by rw [z]; exact hb)) (Nat.lt_irrefl _)
  · exact absurd (Nat.lt_of_lt_of_le (Heap.lt_size (I.pin p hp).1) (by rw [z]; exact hb)) (Nat.lt_irrefl _)
structure Turn (P : Program) (w : World) (K : PySem.W.Frag) (tg : Expr) (J : It) (fp : List Addr) (it : Addr) (tn : Nat → Heap → Prop) : Prop where
  mem : it ∈ fp
  obj : ∀ i h, tn i h → ∀ b ∈ fp, ∃ o, h.get? b = some o ∧ ∀ v, o.data ≠ .cell v
  keep : ∀ i h h', tn i h → (∀ b ∈ fp, ∀ o, h.get? b = some o → h'.get? b = some o) → tn i h'
  item : ∀ (X : Cx), X.prog = P → X.w = w → X.K = K → X.calm = true → ∀ (i : Nat) (pins : List (Addr × Obj)) (s : Shared) (σ : St) (H : Hp) (E : Value → Shared → Prop), Inv X pins σ H s → (∀ b ∈ fp, FpOk X pins H b) → tn i s.heap → J.go i H →
    wpAny (model P w) X.A (pyNext (.ref it)) (fun r s1 => ∃ u, r = some u ∧
      wpAny (model P w) X.A (letOwnedTupleGo tg (.ref it) u) (fun _ s2 => ∃ x H', Inv X pins σ H' s2 ∧ RelV x u ∧ J.yld i H x H' ∧ tn (i + 1) s2.heap ∧ ∀ b ∈ fp, H' b = none) E s1) E s
  done : ∀ (X : Cx), X.prog = P → X.w = w → X.K = K → X.calm = true → ∀ (i : Nat) (pins : List (Addr × Obj)) (s : Shared) (σ : St) (H : Hp) (E : Value → Shared → Prop), Inv X pins σ H s → (∀ b ∈ fp, FpOk X pins H b) → tn i s.heap → J.stop i H →
    wpAny (model P w) X.A (pyNext (.ref it)) (fun r s1 => r = none ∧ Inv X pins σ H s1) E s
  self : ∀ (A : Around) (i : Nat) (s : Shared) (Q : Value → Shared → Prop) (E : Value → Shared → Prop), tn i s.heap → Q (.ref it) s → wpAny (model P w) A (pyIter (.ref it)) Q E s
abbrev TI := St → Hp → (It → Hp → Prop) → Prop
/-- an iterator has come -/
def PIE (X : Cx) (pins : List (Addr × Obj)) (σ : St) (tg : Expr) (R : It → Hp → Prop) (itv : Value) (s2 : Shared) : Prop :=
  ∃ (it : Addr) (fp : List Addr) (tn : Nat → Heap → Prop) (J : It) (H' : Hp), itv = .ref it ∧ Inv X pins σ H' s2 ∧ Turn X.prog X.w X.K tg J fp it tn ∧ tn 0 s2.heap ∧ (∀ b ∈ fp, FpOk X pins H' b) ∧ R J H'
def PI (X : Cx) (tg iter : Expr) (wi : TI) : Prop :=
  ∀ (pins : List (Addr × Obj)) (s : Shared) (σ : St) (H : Hp) (R : It → Hp → Prop), Inv X pins σ H s → wi σ H R →
    wpAny (model X.prog X.w) X.A (eval iter X.env) (fun v s1 => wpAny (model X.prog X.w) X.A (pyIter v) (PIE X pins σ tg R) X.xe s1) X.xe s

/-- the step ahead of the store is nothing for an iterator that keeps no tuple -/
theorem go_of {M : Model} {A : Around} {E : Value → Shared → Prop} {s : Shared} {tg : Expr} {it : Addr} {u : Value} {o : Obj} {n : String} {vs : Array Value} {Q : Unit → Shared → Prop} (ho : s.heap.get? it = some o) (hc : o.cls = .type n) (hd : o.data = .fields vs)
    (hn : ["enumerate", "zip", "dict_itemiterator", "dict_reverseitemiterator", "odict_iterator", "itertools.zip_longest", "itertools.pairwise"].contains n = false) (hQ : Q () s) : wpAny M A (letOwnedTupleGo tg (.ref it) u) Q E s := by
  unfold letOwnedTupleGo
  cases tg <;> first
    | exact wpAny_pure hQ
    | (cases u <;> first
        | exact wpAny_pure hQ
        | (refine wpAny_bind (wpAny_load ho ?_)
           rw [hc, hd]
           show wpAny M A (if (["enumerate", "zip", "dict_itemiterator", "dict_reverseitemiterator", "odict_iterator", "itertools.zip_longest", "itertools.pairwise"].contains n && vs[0]? == some (rawInt _)) = true then _ else _) Q E s
           rw [if_neg (by intro h; rw [hn, Bool.false_and] at h; cases h)]
           exact wpAny_pure hQ))

/-- the list at a, as it stands at each turn (a loop may append to it) -/
def Itl (K : PySem.W.Frag) (a : Addr) : It :=
  ⟨fun i H => ∃ xs x, SqL K H a xs ∧ xs[i]? = some x, fun i H x H' => H' = H ∧ ∀ xs, SqL K H a xs → xs[i]? = some x, fun i H => ∃ xs, SqL K H a xs ∧ xs.length ≤ i⟩
def Itt (K : PySem.W.Frag) (a : Addr) : It :=
  ⟨fun i H => ∃ xs x, SqT K H a xs ∧ xs[i]? = some x, fun i H x H' => H' = H ∧ ∀ xs, SqT K H a xs → xs[i]? = some x, fun i H => ∃ xs, SqT K H a xs ∧ xs.length ≤ i⟩
/-- lo, lo + 1, .. (n of them) -/
def Itr (lo : Int) (n : Nat) : It := ⟨fun i _ => i < n, fun i H x H' => H' = H ∧ x = .int (lo + i), fun i _ => n ≤ i⟩
theorem turn_list {P : Program} {w : World} {K : PySem.W.Frag} {tg : Expr} (a it : Addr) : Turn P w K tg (Itl K a) [it] it (fun i h => h.IsListIter it a i) where
  mem := by simp
  obj := fun i h st b hb => by
    have e : b = it := by simpa using hb
    subst e
    obtain ⟨o, e, c, d⟩ := st
    exact ⟨o, e, fun v z => by rw [d] at z; cases z⟩
  keep := fun i h h' st k => st.at fun o e => k it (by simp) o e
  item := by
    intro X hP hw hK hc i pins s σ H E I hf st hg
    subst hP hw hK
    obtain ⟨xs, x, hq, hx⟩ := hg
    obtain ⟨its, rv, p, hz⟩ := I.list hq
    obtain ⟨u, hu, ru⟩ := rv.get hx
    obtain ⟨f0, f1, f2, f3, f4, f5⟩ := hf it (by simp)
    refine wpAny_pyNext_list_item st p.isList (x := u) (by simpa using hu) fun h' st' sb => ?_
    have I1 : Inv X pins σ H { s with heap := h' } := I.turned (t' := s.toks) (fun b o hb e => (sb.2 b hb).trans e) f0 f1 f3 f4 f5
    obtain ⟨o, e, c, d⟩ := id st'
    exact ⟨u, rfl, go_of (s := { s with heap := h' }) e c d (by decide) ⟨x, H, I1, ru, ⟨rfl, fun ys hy => by rw [I.list_inj hy hq]; exact hx⟩, st', fun b hb => (hf b hb).1⟩⟩
  done := by
    intro X hP hw hK hc i pins s σ H E I hf st hg
    subst hP hw hK
    obtain ⟨xs, hq, hx⟩ := hg
    obtain ⟨its, rv, p, hz⟩ := I.list hq
    obtain ⟨f0, f1, f2, f3, f4, f5⟩ := hf it (by simp)
    have hl := rv.length
    exact wpAny_pyNext_list_end (I.ok.hd hc) st p.isList (by simp; omega) fun h' eb => ⟨rfl, I.turned (t' := s.toks) (fun b o hb e => eb b o hb e) f0 f1 f3 f4 f5⟩
  self := fun _ _ _ _ _ st h => wpAny_pyIter_listiter st h
theorem turn_range {P : Program} {w : World} {K : PySem.W.Frag} {tg : Expr} (it : Addr) (lo : Int) (n : Nat) : Turn P w K tg (Itr lo n) [it] it (fun i h => IsRangeIter h it (lo + (i : Nat) * 1) ((n : Int) - (i : Nat)) 1) where
  mem := by simp
  obj := fun i h st b hb => by
    have e : b = it := by simpa using hb
    subst e
    exact ⟨_, st, fun v z => by
      have z' : Data.fields _ = Data.cell v := z
      cases z'⟩
  keep := fun i h h' st k => k it (by simp) _ st
  item := by
    intro X hP hw hK hc i pins s σ H E I hf st hg
    subst hP hw hK
    obtain ⟨f0, f1, f2, f3, f4, f5⟩ := hf it (by simp)
    have W := Walks.range (prog := X.prog) (w := X.w) (I.ok.hd hc) it lo 1 n
    refine W.item i s _ _ hg st fun v h' tk hv st' kk => ?_
    obtain ⟨t, rfl⟩ := hv
    have I1 : Inv X pins σ H { s with heap := h', toks := tk } := I.turned (fun b o hb e => kk b o (by simpa using hb) e) f0 f1 f3 f4 f5
    refine ⟨_, rfl, go_of (s := { s with heap := h', toks := tk }) (n := "range_iterator") st' rfl rfl (by decide) ⟨.int (lo + i), H, I1, ⟨t, ?_⟩, ⟨rfl, rfl⟩, st', fun b hb => (hf b hb).1⟩⟩
    rw [Int.mul_one]
  done := by
    intro X hP hw hK hc i pins s σ H E I hf st hg
    subst hP hw hK
    obtain ⟨f0, f1, f2, f3, f4, f5⟩ := hf it (by simp)
    exact wpAny_pyNext_range_end (I.ok.hd hc) st (by have : n ≤ i := hg; omega) fun h' eb => ⟨rfl, I.turned (t' := s.toks) (fun b o hb e => eb b o hb e) f0 f1 f3 f4 f5⟩
  self := fun _ _ _ _ _ st h => wpAny_pyIter_rangeiter st h
end L2

namespace L2
open PySem PySem.Spec PyProof.Rows
section
variable {X : Cx} {tg : Expr}
def iList (K : PySem.W.Frag) (tl : TE) : TI := fun σ H R => tl σ H fun x H1 => ∃ a, x = .ref a ∧ (∃ xs, SqL K H1 a xs) ∧ R (Itl K a) H1
def iTup (K : PySem.W.Frag) (tl : TE) : TI := fun σ H R => tl σ H fun x H1 => ∃ a, x = .ref a ∧ (∃ xs, SqT K H1 a xs) ∧ R (Itt K a) H1
theorem pi_list {l : Expr} {tl : TE} (hl : PE X l tl) : PI X tg l (iList X.K tl) := by
  intro pins s σ H R I h
  refine thn (hl pins s σ H _ I h) fun v s1 ⟨x, H1, I1, r1, q1⟩ => ?_
  obtain ⟨a, e, ⟨xs, hq⟩, q⟩ := q1
  subst e
  cases r1
  obtain ⟨its, rv, p, hz⟩ := I1.list hq
  refine wpAny_pyIter_list p.isList ?_
  refine ⟨s1.heap.objs.size, [s1.heap.objs.size], _, _, H1, rfl, I1.kept (t' := s1.toks) fun b o e => Heap.get?_push_of_some _ e, turn_list a _, ⟨_, Heap.get?_push_size _ rfl, rfl, rfl⟩, fun b hb => ?_, q⟩
  have e : b = s1.heap.objs.size := by simpa using hb
  subst e
  exact I1.fpOk (Nat.le_refl _) (I1.hok.fresh (Nat.le_refl _))
/-- a range object just made, walked -/
theorem range_it {pins : List (Addr × Obj)} {σ : St} {H : Hp} {s : Shared} {R : It → Hp → Prop} {E : Value → Shared → Prop} {lo hi : Int} {t u v : Tok} {tk : Nat} (I : Inv X pins σ H s) (h1 : -(2 ^ 62) ≤ lo) (h2 : lo < 2 ^ 62) (h3 : -(2 ^ 62) ≤ hi) (h4 : hi < 2 ^ 62)
    (q : R (Itr lo (hi - lo).toNat) H) : wpAny (model X.prog X.w) X.A (pyIter (.ref s.heap.objs.size)) (PIE X pins σ tg R) E { s with heap := s.heap.push { cls := .type "range", data := .fields #[.int lo t, .int hi u, .int 1 v] }, toks := tk } := by
  refine wpAny_pyIter_range (IsRange.new ..) (small_one h1 h2 h3 h4) ?_
  have I1 : Inv X pins σ H { s with heap := s.heap.push { cls := .type "range", data := .fields #[.int lo t, .int hi u, .int 1 v] }, toks := tk } := I.kept fun b o e => Heap.get?_push_of_some _ e
  refine ⟨(s.heap.push { cls := .type "range", data := .fields #[.int lo t, .int hi u, .int 1 v] }).objs.size, [(s.heap.push { cls := .type "range", data := .fields #[.int lo t, .int hi u, .int 1 v] }).objs.size], _, _, H, rfl,
    I1.kept (t' := tk) fun b o e => Heap.get?_push_of_some _ e, turn_range _ lo (hi - lo).toNat, ?_, fun b hb => ?_, q⟩
  · have e1 : lo + ((0 : Nat) : Int) * 1 = lo := by simp
    have e2 : (((hi - lo).toNat : Nat) : Int) - ((0 : Nat) : Int) = Builtin.Range.rangeSize lo hi 1 := by rw [rangeSize_one]; split <;> omega
    show IsRangeIter _ _ (lo + ((0 : Nat) : Int) * 1) ((((hi - lo).toNat : Nat) : Int) - ((0 : Nat) : Int)) 1
    rw [e1, e2]
    exact Heap.get?_push_size _ rfl
  · have e : b = (s.heap.push { cls := .type "range", data := .fields #[.int lo t, .int hi u, .int 1 v] }).objs.size := by simpa using hb
    subst e
    exact I1.fpOk (Nat.le_refl _) (I1.hok.fresh (Nat.le_refl _))
def iRng1 (ta : TA) : TI := fun σ H R => ta σ H fun vs H1 => ∃ j : Int, vs = [.int j] ∧ -(2 ^ 62) ≤ j ∧ j < 2 ^ 62 ∧ R (Itr 0 j.toNat) H1
def iRng2 (ta : TA) : TI := fun σ H R => ta σ H fun vs H1 => ∃ i j : Int, vs = [.int i, .int j] ∧ (-(2 ^ 62) ≤ i ∧ i < 2 ^ 62 ∧ -(2 ^ 62) ≤ j ∧ j < 2 ^ 62) ∧ R (Itr i (j - i).toNat) H1
theorem pi_range1 {a : Expr} {ta : TA} {p pos : Pos} (hg : Gl X "range") (hm : X.mg "range" = none) (ha : PA X [a] ta) (hs : starEach [a] X.env = [(false, eval a X.env)] := by rfl) : PI X tg (.Call (.Name "range" p) [a] [] pos) (iRng1 ta) := by
  intro pins s σ H R I h
  refine Call_ (ld_blt I hg hm boot_range (PyProof.Rows.callWith_type1 (thn (ha pos pins s σ H _ I h) fun us s1 ⟨vs, H1, I1, r1, q1⟩ => ?_) hs rfl))
  obtain ⟨j, e, q1, q2, q⟩ := q1
  subst e
  cases r1 with
  | cons r rr =>
    cases rr
    obtain ⟨t, rfl⟩ := r
    exact call_range_1 (range_it I1 (by omega) (by omega) q1 q2 (by simpa using q))

/-! ### for -/
/-- W: the invariant by the turn and a measure; N: what the body is to reach -/
def tFor (wi : TI) (g : TG) (tb : TS) : TS := fun D σ H => wi σ H fun J H1 => ∃ W : Nat → Nat → St → Hp → Prop, (∃ m, W 0 m σ H1) ∧ ∀ i m σ H, W i m σ H →
  (J.stop i H ∧ D.nx σ H) ∨ (J.go i H ∧ ∃ N : St → Hp → Prop, (∀ σ' H', N σ' H' → ∃ m', m' < m ∧ W (i + 1) m' σ' H') ∧ ∀ x H', J.yld i H x H' → g x σ H' fun σ2 H2 => tb { D with nx := N, ct := N, bk := D.nx } σ2 H2)
/-- the records at fp as they stand -/
def pinsAt (fp : List Addr) (h : Heap) : List (Addr × Obj) := fp.filterMap fun b => (h.get? b).map fun o => (b, o)
theorem mem_pinsAt {fp : List Addr} {h : Heap} {b : Addr} {o : Obj} (hb : b ∈ fp) (e : h.get? b = some o) : (b, o) ∈ pinsAt fp h := List.mem_filterMap.mpr ⟨b, hb, by rw [e]; rfl⟩
theorem of_pinsAt {fp : List Addr} {h : Heap} {p : Addr × Obj} (hp : p ∈ pinsAt fp h) : p.1 ∈ fp ∧ h.get? p.1 = some p.2 := by
  obtain ⟨b, hb, e⟩ := List.mem_filterMap.mp hp
  cases q : h.get? b with
  | none => rw [q] at e; cases e
  | some o =>
    rw [q] at e
    have e' : (b, o) = p := Option.some.inj e
    subst e'
    exact ⟨hb, q⟩
theorem Inv.pinned {pins : List (Addr × Obj)} {σ : St} {H : Hp} {s : Shared} {fp : List Addr} (I : Inv X pins σ H s) (hf : ∀ b ∈ fp, FpOk X pins H b) (ho : ∀ b ∈ fp, ∃ o, s.heap.get? b = some o ∧ ∀ v, o.data ≠ .cell v) : Inv X (pins ++ pinsAt fp s.heap) σ H s :=
  I.pins_of fun p hp => (List.mem_append.mp hp).elim (fun z => I.pin p (List.mem_append_right _ z)) fun z => by
    obtain ⟨hb, e⟩ := of_pinsAt z
    obtain ⟨f0, f1, f2, _⟩ := hf p.1 hb
    obtain ⟨o, e', d⟩ := ho p.1 hb
    rw [e] at e'; cases e'
    exact ⟨e, f0, f1, f2, d⟩
theorem Inv.unpinned {pins pl : List (Addr × Obj)} {σ : St} {H : Hp} {s : Shared} (I : Inv X (pins ++ pl) σ H s) : Inv X pins σ H s := I.pins_of fun p hp => I.pin p (List.mem_append_right _ (List.mem_append_left _ hp))
theorem ps_for {iter : Expr} {body : List Stmt} {wi : TI} {g : TG} {tb : TS} {pos : Pos} (hp : PassesOwn (model X.prog X.w) X.A X.env X.xe) (hc : X.calm = true) (hi : PI X tg iter wi) (hg : PG X tg g) (hb : PSs X body tb)
    (hs : ∀ x, foldedSetIterable iter X.env x = pure x := by intro _; rfl) : PS X (.For tg iter body [] pos) (tFor wi g tb) := by
  intro pins s σ H D I h
  refine wpAny_For (thn (hi pins s σ H _ I h) fun v s1 h1 => thn h1 fun itv s2 h2 => ?_) hs
  obtain ⟨it, fp, tn, J, H2, e, I2, T, st2, f2, W, ⟨m0, w0⟩, turn⟩ := h2
  subst e
  -- what stays true of the iterator's objects through the loop
  have stat : ∀ {H' : Hp}, (∀ b ∈ fp, H' b = none) → ∀ b ∈ fp, FpOk X pins H' b := fun hn b hb => ⟨hn b hb, (f2 b hb).2⟩
  refine codeAny_forLoop_any (fun n s' => ∃ i σ' H', Inv X pins σ' H' s' ∧ tn i s'.heap ∧ (∀ b ∈ fp, H' b = none) ∧ W i n σ' H') ?_ m0 ⟨0, σ, H2, I2, st2, fun b hb => (f2 b hb).1, w0⟩
  rintro n s3 ⟨i, σ3, H3, I3, st3, fr3, w3⟩
  rcases turn i n σ3 H3 w3 with ⟨stop, qn⟩ | ⟨go, N, hN, step⟩
  · refine wpAny_passesOwn hp (thn (T.done X rfl rfl rfl hc i pins s3 σ3 H3 X.xe I3 (stat fr3) st3 stop) fun r s4 ⟨hr, I4⟩ => ?_)
    subst hr
    exact wpAny_execs_nil ⟨σ3, H3, I4, qn⟩
  · refine wpAny_passesOwn hp (thn (T.item X rfl rfl rfl hc i pins s3 σ3 H3 X.xe I3 (stat fr3) st3 go) fun r s4 ⟨u, hr, h4⟩ => ?_)
    subst hr
    refine wpAny_passesOwn hp (thn h4 fun _ s5 ⟨x, H5, I5, r5, y5, st5, fr5⟩ => ?_)
    have I5' := I5.pinned (stat fr5) (T.obj _ _ st5)
    refine wpAny_passesOwn hp (thn (hg _ s5 σ3 H5 x u _ I5' r5 (step x H5 y5)) fun _ s6 ⟨σ6, H6, I6, q6⟩ => ?_)
    refine wpAny_passesOwn hp (thn (hb _ s6 σ6 H6 _ I6 q6) fun f s7 q7 => ?_)
    have again : ∀ {σ7 : St} {H7 : Hp}, Inv X (pins ++ pinsAt fp s5.heap) σ7 H7 s7 → N σ7 H7 → ∃ m, m < n ∧ ∃ i σ' H', Inv X pins σ' H' s7 ∧ tn i s7.heap ∧ (∀ b ∈ fp, H' b = none) ∧ W i m σ' H' := fun {σ7 H7} I7 n7 => by
      obtain ⟨m', hm, w7⟩ := hN σ7 H7 n7
      refine ⟨m', hm, i + 1, σ7, H7, I7.unpinned, T.keep _ _ _ st5 fun b hb o e => (I7.pin (b, o) (List.mem_append_right _ (List.mem_append_right _ (mem_pinsAt hb e)))).1, fun b hb => ?_, w7⟩
      obtain ⟨o, e, d⟩ := T.obj _ _ st5 b hb
      exact (I7.pin (b, o) (List.mem_append_right _ (List.mem_append_right _ (mem_pinsAt hb e)))).2.1
    cases f with
    | next => obtain ⟨σ7, H7, I7, n7⟩ := q7; exact again I7 n7
    | cont => obtain ⟨σ7, H7, I7, n7⟩ := q7; exact again I7 n7
    | brk => obtain ⟨σ7, H7, I7, q7⟩ := q7; exact ⟨σ7, H7, I7.unpinned, q7⟩
    | ret v => obtain ⟨x7, σ7, H7, I7, r7, q7⟩ := q7; exact ⟨x7, σ7, H7, I7.unpinned, r7, q7⟩
end

/-! ### the forms one uses -/
/-- over a list that the body leaves as it is -/
theorem for_list {K : PySem.W.Frag} {a : Addr} {xs : List V} {g : TG} {tb : TS} {D : Ends} {σ : St} {H : Hp} (Pv : Nat → St → Hp → Prop) (h0 : Pv 0 σ H) (hl : ∀ i σ H, i ≤ xs.length → Pv i σ H → SqL K H a xs)
    (hs : ∀ i x σ H, xs[i]? = some x → Pv i σ H → g x σ H fun σ2 H2 => tb { D with nx := Pv (i + 1), ct := Pv (i + 1), bk := D.nx } σ2 H2) (hd : ∀ σ H, Pv xs.length σ H → D.nx σ H) :
    ∃ W : Nat → Nat → St → Hp → Prop, (∃ m, W 0 m σ H) ∧ ∀ i m σ H, W i m σ H →
      ((Itl K a).stop i H ∧ D.nx σ H) ∨ ((Itl K a).go i H ∧ ∃ N : St → Hp → Prop, (∀ σ' H', N σ' H' → ∃ m', m' < m ∧ W (i + 1) m' σ' H') ∧ ∀ x H', (Itl K a).yld i H x H' → g x σ H' fun σ2 H2 => tb { D with nx := N, ct := N, bk := D.nx } σ2 H2) := by
  refine ⟨fun i m σ H => m = xs.length - i ∧ i ≤ xs.length ∧ Pv i σ H, ⟨xs.length, by simp, Nat.zero_le _, h0⟩, ?_⟩
  rintro i m σ H ⟨rfl, hi, p⟩
  have q := hl i σ H hi p
  by_cases hlt : i < xs.length
  · refine .inr ⟨⟨xs, xs[i], q, by simp [hlt]⟩, Pv (i + 1), fun σ' H' p' => ⟨xs.length - (i + 1), by omega, rfl, hlt, p'⟩, fun x H' y => ?_⟩
    obtain ⟨e, y⟩ := y
    subst e
    exact hs i x σ _ (y xs q) p
  · have e : i = xs.length := by omega
    subst e
    exact .inl ⟨⟨xs, q, Nat.le_refl _⟩, hd σ H p⟩
theorem for_range {lo : Int} {n : Nat} {g : TG} {tb : TS} {D : Ends} {σ : St} {H : Hp} (Pv : Nat → St → Hp → Prop) (h0 : Pv 0 σ H)
    (hs : ∀ i σ H, i < n → Pv i σ H → g (.int (lo + i)) σ H fun σ2 H2 => tb { D with nx := Pv (i + 1), ct := Pv (i + 1), bk := D.nx } σ2 H2) (hd : ∀ σ H, Pv n σ H → D.nx σ H) :
    ∃ W : Nat → Nat → St → Hp → Prop, (∃ m, W 0 m σ H) ∧ ∀ i m σ H, W i m σ H →
      ((Itr lo n).stop i H ∧ D.nx σ H) ∨ ((Itr lo n).go i H ∧ ∃ N : St → Hp → Prop, (∀ σ' H', N σ' H' → ∃ m', m' < m ∧ W (i + 1) m' σ' H') ∧ ∀ x H', (Itr lo n).yld i H x H' → g x σ H' fun σ2 H2 => tb { D with nx := N, ct := N, bk := D.nx } σ2 H2) := by
  refine ⟨fun i m σ H => m = n - i ∧ i ≤ n ∧ Pv i σ H, ⟨n, by simp, Nat.zero_le _, h0⟩, ?_⟩
  rintro i m σ H ⟨rfl, hi, p⟩
  by_cases hlt : i < n
  · refine .inr ⟨hlt, Pv (i + 1), fun σ' H' p' => ⟨n - (i + 1), by omega, rfl, hlt, p'⟩, fun x H' y => ?_⟩
    obtain ⟨e, y⟩ := y
    subst e y
    exact hs i σ _ hlt p
  · have e : i = n := by omega
    subst e
    exact .inl ⟨Nat.le_refl _, hd σ H p⟩
end L2

namespace L2
open PySem PySem.Spec PyProof.Rows

abbrev R2 := V → V → Hp → VK → Prop
/-- a two-place operation on values: f is binaryOp op, inplaceOp op or compareOp op -/
def OpR (X : Cx) (f : Value → Value → Sem Value) (r : R2) : Prop :=
  ∀ (pins : List (Addr × Obj)) (s : Shared) (σ : St) (H : Hp) (x y : V) (v u : Value) (Q : VK), Inv X pins σ H s → RelV x v → RelV y u → r x y H Q →
    wpAny (model X.prog X.w) X.A (f v u) (EP X pins σ Q) X.xe s
/-- a one-place operation -/
def UnR (X : Cx) (f : Value → Sem Value) (r : V → Hp → VK → Prop) : Prop :=
  ∀ (pins : List (Addr × Obj)) (s : Shared) (σ : St) (H : Hp) (x : V) (v : Value) (Q : VK), Inv X pins σ H s → RelV x v → r x H Q →
    wpAny (model X.prog X.w) X.A (f v) (EP X pins σ Q) X.xe s
/-- a call of a value that is known (a builtin, a type) with values -/
def CallR (X : Cx) (f : Value) (r : List V → Hp → VK → Prop) : Prop :=
  ∀ (pins : List (Addr × Obj)) (s : Shared) (σ : St) (H : Hp) (xs : List V) (us : List Value) (Q : VK), Inv X pins σ H s → Vals xs us → r xs H Q →
    wpAny (model X.prog X.w) X.A (call f us) (EP X pins σ Q) X.xe s
/-- a value's truth -/
def TruR (X : Cx) (r : V → Hp → (Bool → Hp → Prop) → Prop) : Prop :=
  ∀ (pins : List (Addr × Obj)) (s : Shared) (σ : St) (H : Hp) (x : V) (v : Value) (Q : Bool → Hp → Prop), Inv X pins σ H s → RelV x v → r x H Q →
    wpAny (model X.prog X.w) X.A (truthy v) (TP X pins σ Q) X.xe s

def tOp (r : R2) (ta tb : TE) : TE := fun σ H Q => ta σ H fun x H1 => tb σ H1 fun y H2 => r x y H2 Q
def tUn (r : V → Hp → VK → Prop) (ta : TE) : TE := fun σ H Q => ta σ H fun x H1 => r x H1 Q
/-- ints in, under C, and a value out -/
def rI (C : Int → Int → Prop) (g : Int → Int → V) : R2 := fun x y H Q => ∃ i j, x = .int i ∧ y = .int j ∧ C i j ∧ Q (g i j) H
def rI0 (g : Int → Int → V) : R2 := fun x y H Q => ∃ i j, x = .int i ∧ y = .int j ∧ Q (g i j) H
def rU (g : Int → V) : V → Hp → VK → Prop := fun x H Q => ∃ i, x = .int i ∧ Q (g i) H

section
variable {X : Cx} {a b c : Expr} {ta tb tc : TE} {pos : Pos}

theorem binT (ha : PE X a ta) (hb : PE X b tb) {pins : List (Addr × Obj)} {s : Shared} {σ : St} {H : Hp} {R : V → V → Hp → Prop} (I : Inv X pins σ H s)
    (h : ta σ H fun x H1 => tb σ H1 fun y H2 => R x y H2) {Q : Value → Shared → Prop} {f : Value → Value → Sem Value}
    (hf : ∀ v u s2 x y H2, Inv X pins σ H2 s2 → RelV x v → RelV y u → R x y H2 → wpAny (model X.prog X.w) X.A (f v u) Q X.xe s2) :
    wpAny (model X.prog X.w) X.A (eval a X.env) (fun v s₁ => wpAny (model X.prog X.w) X.A (eval b X.env) (fun u s₂ => wpAny (model X.prog X.w) X.A (f v u) Q X.xe s₂) X.xe s₁) X.xe s := by
  refine thn (ha pins s σ H _ I h) fun v s1 ⟨x, H1, I1, r1, q1⟩ => ?_
  refine thn (hb pins s1 σ H1 _ I1 q1) fun u s2 ⟨y, H2, I2, r2, q2⟩ => ?_
  exact hf v u s2 x y H2 I2 r1 r2 q2

theorem pe_op {op : Operator} {r : R2} (ho : OpR X (binaryOp op) r) (ha : PE X a ta) (hb : PE X b tb) : PE X (.BinOp a op b pos) (tOp r ta tb) := by
  intro pins s σ H Q I h
  exact wpAny_BinOp (binT ha hb I h fun v u s2 x y H2 I2 rx ry q => ho pins s2 σ H2 x y v u Q I2 rx ry q)
theorem pe_un {op : UnaryOp} {r : V → Hp → VK → Prop} (ho : UnR X (unaryOp op) r) (ha : PE X a ta) : PE X (.UnaryOp op a pos) (tUn r ta) := by
  intro pins s σ H Q I h
  exact UnaryOp_ (thn (ha pins s σ H _ I h) fun v s1 ⟨x, H1, I1, r1, q1⟩ => ho pins s1 σ H1 x v Q I1 r1 q1)

/-! ### ints -/
theorem opI {f : Value → Value → Sem Value} {C : Int → Int → Prop} {g : Int → Int → Int}
    (rule : ∀ (i j : Int) (t u : Tok) (s : Shared) (Q : Value → Shared → Prop) (E : Value → Shared → Prop), C i j → Q (.int (g i j) s.toks) { s with toks := s.toks + 1 } → wpAny (model X.prog X.w) X.A (f (.int i t) (.int j u)) Q E s) :
    OpR X f (rI C fun i j => .int (g i j)) := by
  intro pins s σ H x y v u Q I rx ry h
  obtain ⟨i, j, rfl, rfl, hc, q⟩ := h
  obtain ⟨t, rfl⟩ := rx
  obtain ⟨t', rfl⟩ := ry
  exact rule i j t t' s _ _ hc ⟨.int (g i j), H, I.tok _, ⟨_, rfl⟩, q⟩
theorem opI0 {f : Value → Value → Sem Value} {g : Int → Int → Int}
    (rule : ∀ (i j : Int) (t u : Tok) (s : Shared) (Q : Value → Shared → Prop) (E : Value → Shared → Prop), Q (.int (g i j) s.toks) { s with toks := s.toks + 1 } → wpAny (model X.prog X.w) X.A (f (.int i t) (.int j u)) Q E s) :
    OpR X f (rI0 fun i j => .int (g i j)) := by
  intro pins s σ H x y v u Q I rx ry h
  obtain ⟨i, j, rfl, rfl, q⟩ := h
  obtain ⟨t, rfl⟩ := rx
  obtain ⟨t', rfl⟩ := ry
  exact rule i j t t' s _ _ ⟨.int (g i j), H, I.tok _, ⟨_, rfl⟩, q⟩
theorem opB0 {f : Value → Value → Sem Value} {g : Int → Int → Bool}
    (rule : ∀ (i j : Int) (t u : Tok) (s : Shared) (Q : Value → Shared → Prop) (E : Value → Shared → Prop), Q (.bool (g i j)) s → wpAny (model X.prog X.w) X.A (f (.int i t) (.int j u)) Q E s) :
    OpR X f (rI0 fun i j => .bl (g i j)) := by
  intro pins s σ H x y v u Q I rx ry h
  obtain ⟨i, j, rfl, rfl, q⟩ := h
  obtain ⟨t, rfl⟩ := rx
  obtain ⟨t', rfl⟩ := ry
  exact rule i j t t' s _ _ ⟨.bl (g i j), H, I, rfl, q⟩

def CDiv (i j : Int) : Prop := 0 < j ∧ j < 1073741824
def CDivN (i j : Int) : Prop := j ≠ 0 ∧ j.natAbs < 1073741824
def CPow (i j : Int) : Prop := 0 ≤ j ∧ j ≤ 1000000 ∧ i.natAbs < 2 ^ 64
def CMul (i j : Int) : Prop := (-(2 ^ 64) < i ∧ i < 2 ^ 64) ∨ (-(2 ^ 64) < j ∧ j < 2 ^ 64)
theorem CMul.ok {i j : Int} (h : CMul i j) : IntMulOk i j := by
  rcases h with ⟨h1, h2⟩ | ⟨h1, h2⟩
  · exact .of_left (intBits_le_64 h1 h2)
  · exact .of_right (intBits_le_64 h1 h2)

theorem op_add : OpR X (binaryOp .Add) (rI0 fun i j => .int (i + j)) := opI0 fun _ _ _ _ _ _ _ q => add_int q
theorem op_sub : OpR X (binaryOp .Sub) (rI0 fun i j => .int (i - j)) := opI0 fun _ _ _ _ _ _ _ q => sub_int q
theorem op_mul : OpR X (binaryOp .Mult) (rI CMul fun i j => .int (i * j)) := opI fun _ _ _ _ _ _ _ hc q => mul_int q hc.ok
/-- // by a positive divisor -/
theorem op_fdiv : OpR X (binaryOp .FloorDiv) (rI CDiv fun i j => .int (i / j)) := opI fun i j _ _ _ _ _ hc q => by
  have h1 : (0 : Int) < j := hc.1
  have h2 : j < 1073741824 := hc.2
  exact floordiv_int (by omega) (by rw [Int.fdiv_eq_ediv_of_nonneg i (by omega)]; exact q) (.inl (PyProof.noPylong_small (by omega)))
/-- % by a positive divisor of any size -/
theorem op_mod : OpR X (binaryOp .Mod) (rI (fun _ j => 0 < j) fun i j => .int (i % j)) := opI fun i j _ _ _ _ _ hc q => by
  have h1 : (0 : Int) < j := hc
  exact mod_int' (by omega) (by rw [Int.fmod_eq_emod_of_nonneg i (by omega)]; exact q)
theorem op_pow : OpR X (binaryOp .Pow) (rI CPow fun i j => .int (i ^ j.toNat)) := opI fun _ _ _ _ _ _ _ hc q => pow_int_small hc.1 hc.2.1 hc.2.2 q


theorem unI {f : Value → Sem Value} {g : Int → Int}
    (rule : ∀ (i : Int) (t : Tok) (s : Shared) (Q : Value → Shared → Prop) (E : Value → Shared → Prop), Q (.int (g i) s.toks) { s with toks := s.toks + 1 } → wpAny (model X.prog X.w) X.A (f (.int i t)) Q E s) :
    UnR X f (rU fun i => .int (g i)) := by
  intro pins s σ H x v Q I rx h
  obtain ⟨i, rfl, q⟩ := h
  obtain ⟨t, rfl⟩ := rx
  exact rule i t s _ _ ⟨.int (g i), H, I.tok _, ⟨_, rfl⟩, q⟩
theorem un_neg : UnR X (unaryOp .USub) (rU fun i => .int (-i)) := unI fun _ _ _ _ _ q => neg_int q

/-! ### bools among ints: n += (a < b) -/
end

/-! ### comparisons -/
/-- the scalars that == tells apart as data does -/
def scal : V → V → Bool
  | .non, .non => true | .non, .int _ => true | .int _, .non => true | .non, .bl _ => true | .bl _, .non => true | .non, .str _ => true | .str _, .non => true
  | .int _, .int _ => true | .bl _, .bl _ => true | .str _, .str _ => true | .byt _, .byt _ => true
  | .int _, .str _ => true | .str _, .int _ => true | .bl _, .str _ => true | .str _, .bl _ => true
  | _, _ => false
def rEq : R2 := fun x y H Q => scal x y = true ∧ Q (.bl (decide (x = y))) H
def rNe : R2 := fun x y H Q => scal x y = true ∧ Q (.bl (!decide (x = y))) H

theorem dec_int {i j : Int} : decide (V.int i = V.int j) = (i == j) := by
  rw [Bool.eq_iff_iff]
  simp
theorem dec_bl {i j : Bool} : decide (V.bl i = V.bl j) = (i == j) := by
  rw [Bool.eq_iff_iff]
  simp
theorem dec_str {i j : Str} : decide (V.str i = V.str j) = (i == j) := by
  rw [Bool.eq_iff_iff]
  simp
theorem dec_byt {i j : Array UInt8} : decide (V.byt i = V.byt j) = (i.toList == j.toList) := by
  rw [Bool.eq_iff_iff]
  cases i
  cases j
  simp

section
variable {X : Cx} {a b c : Expr} {ta tb tc : TE} {pos : Pos}
theorem fin_bl {pins : List (Addr × Obj)} {σ : St} {H : Hp} {s : Shared} {Q : VK} {k k' : Bool} (I : Inv X pins σ H s) (q : Q (.bl k) H) (e : k = k') : EP X pins σ Q (.bool k') s := by
  subst e
  exact ⟨.bl k, H, I, rfl, q⟩
theorem op_eq : OpR X (compareOp .Eq) rEq := by
  intro pins s σ H x y v u Q I rx ry h
  obtain ⟨hs, q⟩ := h
  cases x with
  | non =>
    cases rx
    cases y with
    | non => cases ry; exact PySem.EqNone.eq_none_none (fin_bl I q (by simp))
    | bl j => cases ry; exact PySem.EqNone.eq_none_bool (fin_bl I q (by simp))
    | int j => obtain ⟨t', rfl⟩ := ry; exact PySem.EqNone.eq_none_int (fin_bl I q (by simp))
    | str j => obtain ⟨t', rfl⟩ := ry; exact PySem.EqNone.eq_none_str (fin_bl I q (by simp))
    | _ => exact absurd (show false = true from hs) Bool.false_ne_true
  | bl i =>
    cases rx
    cases y with
    | non => cases ry; exact PySem.EqNone.eq_bool_none (fin_bl I q (by simp))
    | bl j => cases ry; exact eq_bool (fin_bl I q dec_bl)
    | str j => obtain ⟨t', rfl⟩ := ry; exact PySem.EqMixed.eq_bool_str (fin_bl I q (by simp))
    | _ => exact absurd (show false = true from hs) Bool.false_ne_true
  | int i =>
    obtain ⟨t, rfl⟩ := rx
    cases y with
    | non => cases ry; exact PySem.EqNone.eq_int_none (fin_bl I q (by simp))
    | int j => obtain ⟨t', rfl⟩ := ry; exact eq_int (fin_bl I q dec_int)
    | str j => obtain ⟨t', rfl⟩ := ry; exact PySem.EqMixed.eq_int_str (fin_bl I q (by simp))
    | _ => exact absurd (show false = true from hs) Bool.false_ne_true
  | str i =>
    obtain ⟨t, rfl⟩ := rx
    cases y with
    | non => cases ry; exact PySem.EqNone.eq_str_none (fin_bl I q (by simp))
    | bl j => cases ry; exact PySem.EqMixed.eq_str_bool (fin_bl I q (by simp))
    | int j => obtain ⟨t', rfl⟩ := ry; exact PySem.EqMixed.eq_str_int (fin_bl I q (by simp))
    | str j => obtain ⟨t', rfl⟩ := ry; exact eq_str (fin_bl I q dec_str)
    | _ => exact absurd (show false = true from hs) Bool.false_ne_true
  | byt i =>
    obtain ⟨t, rfl⟩ := rx
    cases y with
    | byt j => obtain ⟨t', rfl⟩ := ry; exact PySem.W.eq_bytes (fin_bl I q dec_byt)
    | _ => exact absurd (show false = true from hs) Bool.false_ne_true
  | _ => cases y <;> exact absurd (show false = true from hs) Bool.false_ne_true
theorem op_ne : OpR X (compareOp .NotEq) rNe := by
  intro pins s σ H x y v u Q I rx ry h
  obtain ⟨hs, q⟩ := h
  cases x with
  | non =>
    cases rx
    cases y with
    | non => cases ry; exact PySem.EqNone.ne_none_none (fin_bl I q (by simp))
    | bl j => cases ry; exact PySem.EqNone.ne_none_bool (fin_bl I q (by simp))
    | int j => obtain ⟨t', rfl⟩ := ry; exact PySem.EqNone.ne_none_int (fin_bl I q (by simp))
    | str j => obtain ⟨t', rfl⟩ := ry; exact PySem.EqNone.ne_none_str (fin_bl I q (by simp))
    | _ => exact absurd (show false = true from hs) Bool.false_ne_true
  | bl i =>
    cases rx
    cases y with
    | non => cases ry; exact PySem.EqNone.ne_bool_none (fin_bl I q (by simp))
    | bl j => cases ry; exact ne_bool (fin_bl I q (congrArg not dec_bl))
    | str j => obtain ⟨t', rfl⟩ := ry; exact PySem.EqMixed.ne_bool_str (fin_bl I q (by simp))
    | _ => exact absurd (show false = true from hs) Bool.false_ne_true
  | int i =>
    obtain ⟨t, rfl⟩ := rx
    cases y with
    | non => cases ry; exact PySem.EqNone.ne_int_none (fin_bl I q (by simp))
    | int j => obtain ⟨t', rfl⟩ := ry; exact ne_int (fin_bl I q (congrArg not dec_int))
    | str j => obtain ⟨t', rfl⟩ := ry; exact PySem.EqMixed.ne_int_str (fin_bl I q (by simp))
    | _ => exact absurd (show false = true from hs) Bool.false_ne_true
  | str i =>
    obtain ⟨t, rfl⟩ := rx
    cases y with
    | non => cases ry; exact PySem.EqNone.ne_str_none (fin_bl I q (by simp))
    | bl j => cases ry; exact PySem.EqMixed.ne_str_bool (fin_bl I q (by simp))
    | int j => obtain ⟨t', rfl⟩ := ry; exact PySem.EqMixed.ne_str_int (fin_bl I q (by simp))
    | str j => obtain ⟨t', rfl⟩ := ry; exact ne_str (fin_bl I q (congrArg not dec_str))
    | _ => exact absurd (show false = true from hs) Bool.false_ne_true
  | byt i =>
    obtain ⟨t, rfl⟩ := rx
    cases y with
    | byt j => obtain ⟨t', rfl⟩ := ry; exact PySem.W.ne_bytes (fin_bl I q (congrArg not dec_byt))
    | _ => exact absurd (show false = true from hs) Bool.false_ne_true
  | _ => cases y <;> exact absurd (show false = true from hs) Bool.false_ne_true

theorem op_lt : OpR X (compareOp .Lt) (rI0 fun i j => .bl (decide (i < j))) := opB0 fun _ _ _ _ _ _ _ q => lt_int q
theorem op_le : OpR X (compareOp .LtE) (rI0 fun i j => .bl (decide (i ≤ j))) := opB0 fun _ _ _ _ _ _ _ q => le_int q
theorem op_gt : OpR X (compareOp .Gt) (rI0 fun i j => .bl (decide (j < i))) := opB0 fun _ _ _ _ _ _ _ q => gt_int q
theorem op_ge : OpR X (compareOp .GtE) (rI0 fun i j => .bl (decide (j ≤ i))) := opB0 fun _ _ _ _ _ _ _ q => ge_int q

/-- is None, is not None: the right side a value none -/
theorem op_isN : OpR X (compareOp .Is) (fun x y H Q => y = .non ∧ Q (.bl (decide (x = .non))) H) := by
  intro pins s σ H x y v u Q I rx ry h
  obtain ⟨rfl, q⟩ := h
  cases ry
  refine is_none_gen (fin_bl I q ?_)
  cases x <;> first
    | (cases rx; rfl)
    | (obtain ⟨t, rfl⟩ := rx; rfl)

/-- is, is not of two objects that are tracked lists or instances -/
def isObj : HO → Bool
  | .lst _ => true
  | .ins _ _ _ => true
  | _ => false


theorem nomark (b : Expr) {op : CmpOp} (h : op ≠ .In := by decide) (h2 : op ≠ .NotIn := by decide) : behindInMarks op b = false := by
  have e1 : (op == CmpOp.In) = false := by cases op <;> first | rfl | exact absurd rfl h
  have e2 : (op == CmpOp.NotIn) = false := by cases op <;> first | rfl | exact absurd rfl h2
  cases b <;> simp [behindInMarks, e1, e2]
/-- a comparison as a value; hm: nomark b, or (for in, not in) by with_unfolding_all rfl -/
theorem pe_cmpR {op : CmpOp} {r : R2} (ho : OpR X (compareOp op) r) (ha : PE X a ta) (hb : PE X b tb) (hm : behindInMarks op b = false) : PE X (.Compare a [op] [b] pos) (tOp r ta tb) := by
  intro pins s σ H Q I h
  exact wpAny_Compare1 (binT ha hb I h fun v u s2 x y H2 I2 rx ry q => ho pins s2 σ H2 x y v u Q I2 rx ry q) hm
/-- a reading of a value as a test -/
def tTest (t : TE) : TT := fun σ H Q => t σ H fun x H' => ∃ k, x = .bl k ∧ Q k H'
theorem pt_cmpR {op : CmpOp} {r : R2} (ho : OpR X (compareOp op) r) (ha : PE X a ta) (hb : PE X b tb) (hm : behindInMarks op b = false) : PT X (.Compare a [op] [b] pos) (tTest (tOp r ta tb)) := by
  intro pins s σ H Q I h
  refine wpAny_isTrue_Compare1 (thn (ha pins s σ H _ I h) fun v s1 ⟨x, H1, I1, r1, q1⟩ => thn (hb pins s1 σ H1 _ I1 q1) fun u s2 ⟨y, H2, I2, r2, q2⟩ =>
    thn (ho pins s2 σ H2 x y v u _ I2 r1 r2 q2) fun c s3 ⟨z, H3, I3, r3, k, e, q3⟩ => ?_) hm
  subst e
  cases r3
  exact wpAny_truthy_bool ⟨H3, I3, q3⟩
/-- a op1 b op2 c -/
def tChain (r r' : R2) (ta tb tc : TE) : TE := fun σ H Q => ta σ H fun x H1 => tb σ H1 fun y H2 => r x y H2 fun z H3 => ∃ k, z = .bl k ∧
  (if k = true then tc σ H3 fun w' H4 => r' y w' H4 Q else Q (.bl false) H3)
theorem pt_chain {op op' : CmpOp} {r r' : R2} (ho : OpR X (compareOp op) r) (ho' : OpR X (compareOp op') r') (ha : PE X a ta) (hb : PE X b tb) (hc : PE X c tc)
    (hm : lastMarks [op, op'] [b, c] = false := by with_unfolding_all rfl) : PT X (.Compare a [op, op'] [b, c] pos) (tTest (tChain r r' ta tb tc)) := by
  intro pins s σ H Q I h
  refine isTrue_chain (thn (ha pins s σ H _ I h) fun v s1 ⟨x, H1, I1, r1, q1⟩ => test_link (thn (hb pins s1 σ H1 _ I1 q1) fun u s2 ⟨y, H2, I2, r2, q2⟩ =>
    thn (ho pins s2 σ H2 x y v u _ I2 r1 r2 q2) fun d s3 ⟨z, H3, I3, r3, k, e, q3⟩ => ?_)) hm
  subst e
  cases r3
  refine wpAny_truthy_bool ?_
  cases k with
  | false =>
    obtain ⟨k', e', q'⟩ := q3
    cases e'
    exact ite_ff ⟨H3, I3, q'⟩
  | true =>
    refine ite_tt (test_last (thn (hc pins s3 σ H3 _ I3 q3) fun w' s4 ⟨z', H4, I4, r4, q4⟩ => thn (ho' pins s4 σ H4 y z' u w' _ I4 r2 r4 q4) fun d' s5 ⟨z2, H5, I5, r5, k2, e2, q5⟩ => ?_))
    subst e2
    cases r5
    exact wpAny_truthy_bool ⟨H5, I5, q5⟩

/-! ### truth -/
/-- a value's truth by the abstract heap -/
def TruV (K : PySem.W.Frag) (x : V) (H : Hp) (k : Bool) : Prop :=
  match x with
  | .non => k = false
  | .bl b => k = b
  | .int i => k = (i != 0)
  | .str y => y.length ≤ sizeLine ∧ k = ((y.length : Int) != 0)
  | .byt y => y.size ≤ sizeLine ∧ k = ((y.size : Int) != 0)
  | .ref p => (∃ xs, SqL K H p xs ∧ k = !xs.isEmpty) ∨ (∃ xs, SqT K H p xs ∧ k = !xs.isEmpty) ∨ ∃ kvs, H p = some (.dK kvs) ∧ k = !kvs.isEmpty
  | _ => False
theorem line63 : (sizeLine : Nat) < 2 ^ 63 := by rw [sizeLine_eq]; decide

/-! ### strs and bytes -/

def PlainIxT (b : Expr) : Prop := ∀ o i, subscripted b false o i = operate [o, i] (getItem o i)

/-! ### scalar builtins, by CallR -/
theorem vals1 {x : V} {us : List Value} (r : Vals [x] us) : ∃ u, us = [u] ∧ RelV x u := by
  cases r with
  | cons r1 r2 => cases r2; exact ⟨_, rfl, r1⟩
theorem vals2 {x y : V} {us : List Value} (r : Vals [x, y] us) : ∃ u w', us = [u, w'] ∧ RelV x u ∧ RelV y w' := by
  cases r with
  | cons r1 r2 =>
    cases r2 with
    | cons r3 r4 => cases r4; exact ⟨_, _, rfl, r1, r3⟩
theorem call_int1 : CallR X (.type "int") (fun xs H Q => (∃ i, xs = [.int i] ∧ Q (.int i) H) ∨ ∃ k, xs = [.bl k] ∧ Q (.int (if k then 1 else 0)) H) := by
  intro pins s σ H xs us Q I r h
  rcases h with ⟨i, rfl, q⟩ | ⟨k, rfl, q⟩
  · obtain ⟨u, rfl, t, rfl⟩ := vals1 r
    exact call_int_int ⟨.int i, H, I, ⟨_, rfl⟩, q⟩
  · obtain ⟨u, rfl, r1⟩ := vals1 r
    cases r1
    exact call_int_bool ⟨.int (if k then 1 else 0), H, I.tok _, ⟨_, rfl⟩, q⟩
/-- len of a str, a bytes, a list, a tuple -/
def LenV (K : PySem.W.Frag) (x : V) (H : Hp) (n : Nat) : Prop :=
  match x with
  | .str y => y.length ≤ sizeLine ∧ n = y.length
  | .byt y => y.size ≤ sizeLine ∧ n = y.size
  | .ref p => (∃ xs, SqL K H p xs ∧ n = xs.length) ∨ ∃ xs, SqT K H p xs ∧ n = xs.length
  | _ => False
end
end L2

namespace L2
open PySem PySem.Spec PyProof.Rows

/-! ### an instance, its attributes a map -/
structure ObjM (h : Heap) (x dx C : Addr) (mA : Str → Option Value) : Prop where
  obj : h.get? x = some (PySem.W.instObj C dx)
  ns : h.Ns1 dx mA
  ne : dx ≠ x



section
variable {prog : Program} {w : World} {A : Around} {E : Value → Shared → Prop} {s : Shared} {K : PySem.W.Frag} {x dx C f : Addr} {mA : Str → Option Value} {name : Str} {v : Value}





end

/-! ### the attributes as a list of pairs -/
def putF (f : Str) (v : V) : List (Str × V) → List (Str × V)
  | [] => [(f, v)]
  | (g, x) :: r => if g = f then (g, v) :: r else (g, x) :: putF f v r

theorem RelO.some_of {v : V} {o : Option Value} (r : RelO (some v) o) : ∃ u, o = some u ∧ RelV v u := by
  cases o with
  | none => exact (show False from r).elim
  | some u => exact ⟨u, rfl, r⟩

section
variable {P : Program} {w : World} {H H' : Hp} {h h' : Heap} {a C dx : Addr} {fs fs' : List (Str × V)}
end

/-! ### what of the text a class must have -/
structure Cls (K : PySem.W.Frag) (C : Addr) : Prop where
  pg : PySem.W.plainGet K C Str.empty = true
  hd : PySem.W.hasDictIn K C = true
  po : PySem.W.plainOver K C = true
  sa : PySem.W.findIn K (.ref C) "__setattr__" = some (some (.builtin "object.__setattr__"))
/-- no class of it has the name -/
def NoAttr (K : PySem.W.Frag) (C : Addr) (f : Str) : Prop := PySem.W.findIn K (.ref C) f = some none
/-- a constant of the class -/
structure Con (K : PySem.W.Frag) (C : Addr) (f : Str) (v : V) (u : Value) : Prop where
  at_ : PySem.W.findIn K (.ref C) f = some (some u)
  rel : RelV v u
  get : PySem.W.specialIn K u "__get__" = some none
  cp : PySem.W.copiedNames.contains f = false
/-- a method: a plain def of the class or of one above it -/
structure Meth (K : PySem.W.Frag) (C : Addr) (m : Str) (f : Addr) : Prop where
  at_ : PySem.W.findIn K (.ref C) m = some (some (.ref f))
  fn : PySem.W.isFn K (.ref f) = true
  kp : PySem.W.keepIn K (.ref f) = true

section
variable {X : Cx} {pins : List (Addr × Obj)} {σ : St} {H : Hp} {s : Shared} {a C dx : Addr} {fs : List (Str × V)} {f : Str} {v : V} {A : Around} {E : Value → Shared → Prop}






end

/-! ### readings and rules -/
/-- e.f, an attribute of the instance -/
def tFld (K : PySem.W.Frag) (ta : TE) (f : Str) : TE := fun σ H Q => ta σ H fun x H1 => ∃ a C dx fs v, x = .ref a ∧ H1 a = some (.ins C dx fs) ∧ Cls K C ∧ NoAttr K C f ∧ fs.lookup f = some v ∧ Q v H1
/-- e.f, a constant of the class -/
def tCon (K : PySem.W.Frag) (ta : TE) (f : Str) : TE := fun σ H Q => ta σ H fun x H1 => ∃ a C dx fs v u, x = .ref a ∧ H1 a = some (.ins C dx fs) ∧ Cls K C ∧ Con K C f v u ∧ fs.lookup f = none ∧ Q v H1
/-- e.f = value -/
def sFld (K : PySem.W.Frag) (ta tv : TE) (f : Str) : TS := fun D σ H => tv σ H fun y H1 => ta σ H1 fun x H2 => ∃ a C dx fs, x = .ref a ∧ H2 a = some (.ins C dx fs) ∧ Cls K C ∧ NoAttr K C f ∧ fs.length < 1000 ∧
  D.nx σ (upd H2 a (.ins C dx (putF f y fs)))
/-- an augmented operator on two values -/
def InOp (X : Cx) (op : Operator) (rd : V → V → Hp → VK → Prop) : Prop :=
  ∀ (pins : List (Addr × Obj)) (s : Shared) (σ : St) (H : Hp) (x y : V) (u v : Value) (Q : VK), Inv X pins σ H s → RelV x u → RelV y v → rd x y H Q → wpAny (model X.prog X.w) X.A (inplaceOp op u v) (EP X pins σ Q) X.xe s
/-- e.f op= value -/
def sFldAug (K : PySem.W.Frag) (ta tv : TE) (rd : V → V → Hp → VK → Prop) (f : Str) : TS := fun D σ H => ta σ H fun x H1 => ∃ a C dx fs v, x = .ref a ∧ H1 a = some (.ins C dx fs) ∧ Cls K C ∧ NoAttr K C f ∧ fs.lookup f = some v ∧
  tv σ H1 fun y H2 => rd v y H2 fun z H3 => ∃ dx' fs', H3 a = some (.ins C dx' fs') ∧ fs'.length < 1000 ∧ D.nx σ (upd H3 a (.ins C dx' (putF f z fs')))

section
variable {X : Cx} {o e value : Expr} {f : Str} {pos pos' tpos : Pos} {ta tv : TE}
def rAdd : V → V → Hp → VK → Prop := fun x y H Q => ∃ i j, x = .int i ∧ y = .int j ∧ Q (.int (i + j)) H
def rSub : V → V → Hp → VK → Prop := fun x y H Q => ∃ i j, x = .int i ∧ y = .int j ∧ Q (.int (i - j)) H

end

/-! ### isinstance -/
section
variable {X : Cx} {pins : List (Addr × Obj)} {σ : St} {H : Hp} {s : Shared} {A : Around} {E : Value → Shared → Prop} {Q : Value → Shared → Prop} {c : Value} {b : Bool}
/-- the type of a value, as the fragment's deciders take it; for an instance its class -/
inductive TyOf (K : PySem.W.Frag) (H : Hp) : V → Value → Prop where
  | non : TyOf K H .non (.type "NoneType")
  | bl (x : Bool) : TyOf K H (.bl x) (.type "bool")
  | int (i : Int) : TyOf K H (.int i) (.type "int")
  | str (x : Str) : TyOf K H (.str x) (.type "str")
  | flt (x : UInt64) : TyOf K H (.flt x) (.type "float")
  | lst {a : Addr} {xs : List V} (e : H a = some (.lst xs)) : TyOf K H (.ref a) (.type "list")
  | frz {a : Addr} {o : Obj} {xs : List V} (e : H a = some (.frz o (.lst xs))) : TyOf K H (.ref a) (.type "list")
  | tup {a : Addr} {xs : List V} (e : H a = some (.tup xs)) : TyOf K H (.ref a) (.type "tuple")
  | dK {a : Addr} {kvs : List (Key × V)} (e : H a = some (.dK kvs)) : TyOf K H (.ref a) (.type "dict")
  | dT {a : Addr} {kvs : List (List Key × V)} (e : H a = some (.dT kvs)) : TyOf K H (.ref a) (.type "dict")
  | ins {a C dx : Addr} {fs : List (Str × V)} (e : H a = some (.ins C dx fs)) (cl : Cls K C) (ha : PySem.W.findIn K (.ref C) "__class__" = some (some (.builtin "object.__class__")))
      (hn : PySem.W.specialIn K (.builtin "object.__class__") "__get__" = some (some (.builtin "getset_descriptor.__get__"))) (htk : PySem.W.takesIn K (.builtin "object.__class__") = some true)
      (hm : PySem.W.mroIn K C (.type "object") = some true) : TyOf K H (.ref a) (.ref C)
end
end L2

namespace L2
open PySem PySem.Spec PyProof.Rows

/-! ### room -/
structure Room (k : Nat) (A : Around) : Prop where
  hd : A.handled = none
  dp : A.depth + 3 * k + 5 < recursionLimit
  un : A.units + 16 * k + 200 < cLine
theorem Room.mono {j k : Nat} {A : Around} (r : Room k A) (h : j ≤ k) : Room j A := ⟨r.hd, by have := r.dp; omega, by have := r.un; omega⟩
theorem Room.deeper {k : Nat} {A : Around} (r : Room (k + 1) A) (env : Env) : Room k (A.deeper env) :=
  ⟨r.hd, by have := r.dp; show A.depth + 1 + 3 * k + 5 < _; omega, by have := r.un; show A.units + 3 + 16 * k + 200 < _; omega⟩
theorem Room.depth {k : Nat} {A : Around} (r : Room k A) : A.depth < recursionLimit := by have := r.dp; omega
theorem Room.units {k : Nat} {A : Around} (r : Room k A) : A.units + 64 < cLine := by have := r.un; omega

/-! ### argument lists and displays -/
def tNil : TA := fun _ H Q => Q [] H
def tCons (ta : TE) (tr : TA) : TA := fun σ H Q => ta σ H fun x H1 => tr σ H1 fun xs H2 => Q (x :: xs) H2
section
variable {X : Cx} {e : Expr} {es : List Expr} {te : TE} {t : TA} {pos : Pos}
theorem pa_nil : PA X [] tNil := fun _ _ _ _ H Q I h => Calls.spliced_nil ⟨[], H, I, .nil, h⟩
theorem pa_cons (ha : PE X e te) (hr : PA X es t) (hs : starEach (e :: es) X.env = (false, eval e X.env) :: starEach es X.env := by rfl) : PA X (e :: es) (tCons te t) := by
  intro pos pins s σ H Q I h
  rw [hs]
  show wpAny _ _ (spliced ((false, eval e X.env) :: backTo pos (starEach es X.env))) _ _ s
  refine Calls.spliced_cons (thn (ha pins s σ H _ I h) fun u s1 ⟨x, H1, I1, r1, q1⟩ => ?_)
  exact thn (hr pos pins s1 σ H1 _ I1 q1) fun us s2 ⟨xs, H2, I2, r2, q2⟩ => ⟨x :: xs, H2, I2, .cons r1 r2, q2⟩

/-- a tuple, a list of written items -/
def tTup (t : TA) : TE := fun σ H Q => t σ H fun xs H1 => xs.length ≤ sizeLine ∧ ∀ p, H1 p = none → Q (.ref p) (upd H1 p (.tup xs))
def tLst (t : TA) : TE := fun σ H Q => t σ H fun xs H1 => xs.length ≤ sizeLine ∧ ∀ p, H1 p = none → Q (.ref p) (upd H1 p (.lst xs))
theorem pe_tup {x1} (h : PA X es t) : PE X (.Tuple es x1 pos) (tTup t) := by
  intro pins s σ H Q I hq
  refine wpAny_Tuple_spliced (thn (h pos pins s σ H _ I hq) fun us s1 ⟨xs, H1, I1, r, z, q⟩ => ⟨by rw [← r.length]; exact z, ?_⟩)
  have hf : H1 s1.heap.objs.size = none := I1.hok.fresh (Nat.le_refl _)
  refine ⟨.ref s1.heap.objs.size, upd H1 s1.heap.objs.size (.tup xs), I1.laid (t' := s1.toks) (fun b u e => Heap.get?_push_of_some _ e) (Nat.le_refl _) ?_, rfl, q _ hf⟩
  exact ⟨z, us, r, ⟨_, Heap.get?_push_size _ rfl, rfl, _, rfl⟩⟩
theorem pe_lst (h : PA X es t) : PE X (.List es pos) (tLst t) := by
  intro pins s σ H Q I hq
  refine wpAny_List_spliced (thn (h pos pins s σ H _ I hq) fun us s1 ⟨xs, H1, I1, r, z, q⟩ => ⟨by rw [← r.length]; exact z, ?_⟩)
  have hf : H1 s1.heap.objs.size = none := I1.hok.fresh (Nat.le_refl _)
  refine ⟨.ref s1.heap.objs.size, upd H1 s1.heap.objs.size (.lst xs), I1.laid (t' := s1.toks) (fun b u e => Heap.get?_push_of_some _ e) (Nat.le_refl _) ?_, rfl, q _ hf⟩
  exact ⟨z, us, 0, r, Heap.get?_push_size _ rfl⟩
end

/-! ### what a def promises -/
/-- a def's promise: the bound arguments in the parameters' order, the heap, the wanted end, the wanted exception -/
abbrev Sp := List V → Hp → VK → XK → Prop
/-- how an exception lies behind a call (file 08 gives it): the callers' frames, abstract heap and state ahead of the call, the wish, the exception, the state -/
abbrev CXT := List Env → Hp → Shared → XK → Value → Shared → Prop

/-- the state at a call -/
structure Env0 (P : Program) (w : World) (K : PySem.W.Frag) (mg : Str → Option Value) (base : Heap) (A : Around) (outer : List Env) (s : Shared) (H : Hp) : Prop where
  frames : A.frames = some outer
  mod : Mod K mg base
  bs : ∀ b o, base.get? b = some o → s.heap.get? b = some o ∧ H b = none
  bsz : base.objs.size ≤ s.heap.objs.size
  funs : s.heap.FunFrames base outer
  frf : ∀ b ∈ frs outer, H b = none
  hok : HOk P w H s.heap
  bare : AllBare s.gens
/-- a call's end -/
def CE (outer : List Env) (P : Program) (w : World) (H : Hp) (s : Shared) (Q : VK) (u : Value) (s' : Shared) : Prop :=
  ∃ v H', s'.os = s.os ∧ AllBare s'.gens ∧ Un (frs outer) [] H H' s.heap s'.heap ∧ HOk P w H' s'.heap ∧ RelV v u ∧ Q v H'
def CR (CX : CXT) (outer : List Env) (P : Program) (w : World) (H : Hp) (s : Shared) (Q : VK) (E : XK) (r : Result) (s' : Shared) : Prop :=
  match r with
  | .ok (.ret u) => CE outer P w H s Q u s'
  | .ok _ => False
  | .error e => CX outer H s E e s'
structure FnOk (P : Program) (w : World) (K : PySem.W.Frag) (mg : Str → Option Value) (base : Heap) (CX : CXT) (k : Nat) (f : Addr) (fd : FuncData) (ps : List Str) (sp : Sp) : Prop where
  len : ∀ vs H Q E, sp vs H Q E → vs.length = ps.length
  run : ∀ (A : Around) (outer : List Env) (s : Shared) (H : Hp) (args : Args) (us : List Value) (vs : List V) (Q : VK) (E : XK), Room k A → Env0 P w K mg base A outer s H → BindsTo s fd args (ps.zip us) → Vals vs us → sp vs H Q E →
    codeAny (model P w) A (.call (.ref f) args) (CR CX outer P w H s Q E) s
/-- a weaker promise -/
theorem FnOk.imp {P : Program} {w : World} {K : PySem.W.Frag} {mg : Str → Option Value} {base : Heap} {CX : CXT} {k : Nat} {f : Addr} {fd : FuncData} {ps : List Str} {sp sp' : Sp} (F : FnOk P w K mg base CX k f fd ps sp)
    (h : ∀ vs H Q E, sp' vs H Q E → sp vs H Q E) : FnOk P w K mg base CX k f fd ps sp' :=
  ⟨fun vs H Q E q => F.len vs H Q E (h _ _ _ _ q), fun A outer s H args us vs Q E hr he hb hv hs => F.run A outer s H args us vs Q E hr he hb hv (h _ _ _ _ hs)⟩


section
variable {X : Cx} {pins : List (Addr × Obj)} {σ : St} {H : Hp} {s s' : Shared}
/-- from a body: what a callee wants -/
theorem Inv.env0 (I : Inv X pins σ H s) : Env0 X.prog X.w X.K X.mg X.base X.A X.stack s H :=
  ⟨I.ok.frames, I.ok.mod, I.bs, Nat.le_trans I.ok.bsz I.sz, I.stack, I.stkFree, I.hok, I.bare⟩
/-- behind a call -/
theorem Inv.after {Q : VK} {u : Value} (I : Inv X pins σ H s) (h : CE X.stack X.prog X.w H s Q u s') : EP X pins σ Q u s' := by
  obtain ⟨v, H', os, bare, un, hok, r, q⟩ := h
  obtain ⟨hh, g, d, t, os'⟩ := s'
  obtain rfl : os' = s.os := os
  exact ⟨v, H', I.call (h' := hh) (g' := g) (d' := d) (t' := t) (ch := []) un hok bare (fun b z => absurd z (by simp)), r, q⟩
end

/-! ### calls -/
/-- f(..): the written arguments, then the defaults dvs; E: what is wanted of an exception -/
def tCall (sp : Sp) (dvs : List V) (E : XK) (t : TA) : TE := fun σ H Q => t σ H fun vs H1 => sp (vs ++ dvs) H1 Q E
/-- o.m(..) of an instance of the class at C -/
def tMeth (C : Addr) (m : Str) (sp : Sp) (dvs : List V) (E : XK) (ta : TE) (t : TA) : TE := fun σ H Q => ta σ H fun x H1 => ∃ a dx fs, x = .ref a ∧ H1 a = some (.ins C dx fs) ∧ fs.lookup m = none ∧
  t σ H1 fun vs H2 => sp (x :: (vs ++ dvs)) H2 Q E
/-- C(..): a new instance and its dict, then __init__ -/
def tMake (C : Addr) (sp : Sp) (dvs : List V) (E : XK) (t : TA) : TE := fun σ H Q => t σ H fun vs H1 => ∀ x dx, H1 x = none → H1 dx = none → dx ≠ x →
  sp (.ref x :: (vs ++ dvs)) (upd (upd H1 dx (.own x)) x (.ins C dx [])) (fun v H2 => v = .non ∧ Q (.ref x) H2) E

/-- how the parameters are bound: us the positional arguments, kw the keywords' values by name, ds the defaults that fill up -/
def Binds (K : PySem.W.Frag) (fd : FuncData) (ps : List Str) (ds : List Value) : Prop :=
  ∀ (s : Shared) (us : List Value), K.In s.heap → (us ++ ds).length = ps.length → BindsTo s fd ⟨us, []⟩ (ps.zip (us ++ ds))
/-- every parameter is given -/
theorem Binds.all {K : PySem.W.Frag} {fd : FuncData} {ps : List Str} (h : ∀ us : List Value, us.length = ps.length → bindArgs fd ⟨us, []⟩ = pure (ps.zip us)) : Binds K fd ps [] := fun s us _ hl => by
  rw [List.append_nil] at hl ⊢
  exact .of_eq (h us hl)

/-- an exception of a callee reaches what this body wants of exceptions -/
def Passes (CX : CXT) (X : Cx) (E : XK) : Prop := ∀ (pins : List (Addr × Obj)) (σ : St) (H : Hp) (s : Shared) (e : Value) (s' : Shared), Inv X pins σ H s → CX X.stack H s E e s' → X.xe e s'

section
variable {X : Cx} {CX : CXT} {k : Nat} {f C : Addr} {fd : FuncData} {ps : List Str} {sp : Sp} {dvs : List V} {ds : List Value} {E : XK} {x m : Str} {p pos apos : Pos} {e o : Expr} {es : List Expr} {ta : TE} {t : TA}

/-- the callee runs -/
theorem run_fn {pins : List (Addr × Obj)} {σ : St} {H : Hp} {s : Shared} {Q : VK} {us : List Value} {vs : List V} (F : FnOk X.prog X.w X.K X.mg X.base CX k f fd ps sp) (hr : Room k X.A) (hb : Binds X.K fd ps ds) (hd : Vals dvs ds) (hx : Passes CX X E)
    (I : Inv X pins σ H s) (r : Vals vs us) (h : sp (vs ++ dvs) H Q E) : wpAny (model X.prog X.w) X.A (call (.ref f) us) (EP X pins σ Q) X.xe s := by
  have r2 : Vals (vs ++ dvs) (us ++ ds) := r.append hd
  have hl : (us ++ ds).length = ps.length := by rw [← r2.length]; exact F.len _ _ _ _ h
  refine wpAny_call (codeAny_mono (F.run X.A X.stack s H ⟨us, []⟩ (us ++ ds) (vs ++ dvs) Q E hr I.env0 (hb s us I.kIn hl) r2 h) fun r s' hq => ?_)
  cases r with
  | error e => exact hx pins σ H s e s' I hq
  | ok fl =>
    cases fl with
    | ret u => exact I.after hq
    | next => exact False.elim hq
    | brk => exact False.elim hq
    | cont => exact False.elim hq

theorem pe_call (F : FnOk X.prog X.w X.K X.mg X.base CX k f fd ps sp) (hr : Room k X.A) (hg : Gl X x) (hm : X.mg x = some (.ref f)) (hk : PySem.W.keepIn X.K (.ref f) = true) (hb : Binds X.K fd ps ds) (hd : Vals dvs ds) (hx : Passes CX X E)
    (ha : PA X (e :: es) t) (hdb : (x == ("__debug__" : Str)) = false := by decide) (he : starEach (e :: es) X.env = (false, eval e X.env) :: starEach es X.env := by rfl) (hpl : (backTo pos (starEach es X.env)).any (·.1) = false := by rfl) :
    PE X (.Call (.Name x p) (e :: es) [] pos) (tCall sp dvs E t) := by
  intro pins s σ H Q I h
  refine wpAny_Call_Name_kw (ld_glob I hg hm ?_ hdb)
  refine PySem.W.callWith_K (h₀ := X.base) I.ok.mod.kin hk (thn (ha pos pins s σ H _ I h) fun us s1 ⟨vs, H1, I1, r, q⟩ => ⟨I1.kIn, ?_⟩) he hpl
  exact run_fn F hr hb hd hx I1 r q


/-- what a class must have to be made -/
structure Mk (K : PySem.W.Frag) (C f : Addr) : Prop where
  makes : PySem.W.makesIn K C = true
  init : PySem.W.findIn K (.ref C) "__init__" = some (some (.ref f))
  fn : PySem.W.isFn K (.ref f) = true
  kp : PySem.W.keepIn K (.ref C) = true

end

/-! ### keywords -/
/-- the values of the keywords, from the left -/
def PK (X : Cx) (kws : List Keyword) (t : TA) : Prop :=
  ∀ (pos : Pos) (pins : List (Addr × Obj)) (s : Shared) (σ : St) (H : Hp) (Q : List V → Hp → Prop), Inv X pins σ H s → t σ H Q → wpAny (model X.prog X.w) X.A (evalAll ((backToKw pos (keywordEach kws X.env)).map (·.2))) (AP X pins σ Q) X.xe s
section
variable {X : Cx} {CX : CXT} {k : Nat} {f C : Addr} {fd : FuncData} {ps ks : List Str} {sp : Sp} {E : XK} {x m : Str} {p pos apos kpos : Pos} {e o : Expr} {es : List Expr} {kws : List Keyword} {te ta : TE} {t tk : TA} {nm : Option Str}

/-- how a call with keywords binds: g puts the positional values us and the keywords' values ws (names ks) in the parameters' order, defaults among them -/
structure KBinds (K : PySem.W.Frag) (fd : FuncData) (ps ks : List Str) (g : List Value → List Value → List Value) (gV : List V → List V → List V) : Prop where
  to : ∀ (s : Shared) (us ws : List Value), K.In s.heap → (g us ws).length = ps.length → BindsTo s fd ⟨us, ks.zip ws⟩ (ps.zip (g us ws))
  rel : ∀ {vs : List V} {us : List Value} {zs : List V} {ws : List Value}, Vals vs us → Vals zs ws → Vals (gV vs zs) (g us ws)
def tCallK (sp : Sp) (gV : List V → List V → List V) (E : XK) (t tk : TA) : TE := fun σ H Q => t σ H fun vs H1 => tk σ H1 fun zs H2 => sp (gV vs zs) H2 Q E
variable {g : List Value → List Value → List Value} {gV : List V → List V → List V}
end

/-! ### a def's body keeps its promise -/
/-- names: the parameters first -/
structure FnScope (N P : List Str) (sc : Scope) : Prop where
  kind : sc.kind = .function
  co : sc.isCoroutine = false
  gen : sc.isGenerator = false
  nd : N.Nodup
  pre : N.take P.length = P
  par : ∀ x ∈ P, sc.names.lookup x = some .local ∨ sc.names.lookup x = some .cell
  nofree : ∀ y ∈ sc.names, y.2 ≠ .free

theorem bindL_out {kindOf : Str → Option NameKind} {x : Str} : ∀ {binds : List (Str × Value)} {m : Str → Option Value}, (∀ v, (x, v) ∉ binds) → bindL kindOf binds m x = m x
  | [], _, _ => rfl
  | (n, v) :: r, m, h => by
    unfold bindL
    rw [bindL_out fun w hw => h w (List.mem_cons_of_mem _ hw)]
    split
    · have : x ≠ n := by rintro rfl; exact h v List.mem_cons_self
      simp [this]
    · rfl
theorem bindC_out {kindOf : Str → Option NameKind} {x : Str} : ∀ {binds : List (Str × Value)} {m : Str → Option Value}, (∀ v, (x, v) ∉ binds) → bindC kindOf binds m x = m x
  | [], _, _ => rfl
  | (n, v) :: r, m, h => by
    unfold bindC
    rw [bindC_out fun w hw => h w (List.mem_cons_of_mem _ hw)]
    split
    · rfl
    · have : x ≠ n := by rintro rfl; exact h v List.mem_cons_self
      simp [this]
theorem bindL_get {kindOf : Str → Option NameKind} {x : Str} {v : Value} : ∀ {P : List Str} {vs : List Value} {i : Nat} {m : Str → Option Value}, P.Nodup → P[i]? = some x → vs[i]? = some v → kindOf x = some .local →
    bindL kindOf (P.zip vs) m x = some v
  | [], _, _, _, _, h, _, _ => by simp at h
  | _ :: _, [], _, _, _, _, h, _ => by simp at h
  | p :: P, w :: vs, 0, m, nd, h1, h2, hk => by
    simp at h1 h2; subst h1; subst h2
    show bindL kindOf ((p, w) :: P.zip vs) m p = _
    unfold bindL
    rw [bindL_out fun v hv => (List.nodup_cons.mp nd).1 (List.of_mem_zip hv).1, if_pos hk]
    simp
  | p :: P, w :: vs, i + 1, m, nd, h1, h2, hk => by
    show bindL kindOf ((p, w) :: P.zip vs) m x = _
    unfold bindL
    exact bindL_get (i := i) (List.nodup_cons.mp nd).2 (by simpa using h1) (by simpa using h2) hk
theorem bindC_get {kindOf : Str → Option NameKind} {x : Str} {v : Value} : ∀ {P : List Str} {vs : List Value} {i : Nat} {m : Str → Option Value}, P.Nodup → P[i]? = some x → vs[i]? = some v → kindOf x ≠ some .local →
    bindC kindOf (P.zip vs) m x = some v
  | [], _, _, _, _, h, _, _ => by simp at h
  | _ :: _, [], _, _, _, _, h, _ => by simp at h
  | p :: P, w :: vs, 0, m, nd, h1, h2, hk => by
    simp at h1 h2; subst h1; subst h2
    show bindC kindOf ((p, w) :: P.zip vs) m p = _
    unfold bindC
    rw [bindC_out fun v hv => (List.nodup_cons.mp nd).1 (List.of_mem_zip hv).1, if_neg hk]
    simp
  | p :: P, w :: vs, i + 1, m, nd, h1, h2, hk => by
    show bindC kindOf ((p, w) :: P.zip vs) m x = _
    unfold bindC
    exact bindC_get (i := i) (List.nodup_cons.mp nd).2 (by simpa using h1) (by simpa using h2) hk

/-- the names' values at the entry -/
def start (N : List Str) (vs : List V) : St := vs.map some ++ List.replicate (N.length - vs.length) none

/-- the context of a def's body, at its entry; an exception leaves the frame, then lies as CX says -/
def cxOf (CX : CXT) (P : Program) (w : World) (K : PySem.W.Frag) (mg : Str → Option Value) (base : Heap) (N : List Str) (qual : Str) (scope : Scope) (f : Addr) (cd : Value) (A : Around) (outer : List Env) (s : Shared) (H : Hp) (E : XK) : Cx where
  prog := P
  w := w
  K := K
  mg := mg
  base := base
  A := A.deeper (envOfC qual scope s.heap.objs.size f cd)
  N := N
  s₀ := s
  H₀ := H
  env := envOfC qual scope s.heap.objs.size f cd
  outer := outer
  stack := envOfC qual scope s.heap.objs.size f cd :: outer
  ex := []
  calm := true
  fn := fun _ => true
  pn := []
  xe := fun e s' => wpAny (model P w) (A.deeper (envOfC qual scope s.heap.objs.size f cd)) (leaving (envOfC qual scope s.heap.objs.size f cd) e) (fun _ s'' => CX outer H s E e s'') (fun e' s'' => CX outer H s E e' s'') s'

theorem cell_has {sc : Scope} {n : Nat} {x : Str} (h : sc.names.lookup x = some .cell) : ∃ c, (cellsFrom n sc.names []).lookup x = some c := by
  have q := PySem.W.cellsFrom_some sc.names n [] (.inl h)
  exact Option.isSome_iff_exists.mp q

theorem inv_start {CX : CXT} {P : Program} {w : World} {K : PySem.W.Frag} {mg : Str → Option Value} {base : Heap} {N ps : List Str} {qual : Str} {scope : Scope} {f : Addr} {cd : Value} {A : Around} {outer : List Env} {s s1 : Shared} {H : Hp} {E : XK} {us : List Value} {vs : List V}
    (S : FnScope N ps scope) (hd : A.handled = none) (e0 : Env0 P w K mg base A outer s H) (hl : vs.length = ps.length) (r : Vals vs us)
    (x : InCallC s s.heap.objs.size (bindL (envOfC qual scope s.heap.objs.size f cd).kindOf (ps.zip us) fun _ => none) (cellsFrom (s.heap.objs.size + 1) scope.names []) (bindC (envOfC qual scope s.heap.objs.size f cd).kindOf (ps.zip us) fun _ => none) s1) :
    Inv (cxOf CX P w K mg base N qual scope f cd A outer s H E) [] (start N vs) H s1 := by
  have hpl : ps.length ≤ N.length := by have := congrArg List.length S.pre; rw [List.length_take] at this; omega
  obtain ⟨h1, tk, rfl, hk⟩ := x.done
  have noA : ∀ b : Addr, b ∉ (cxOf CX P w K mg base N qual scope f cd A outer s H E).ex := fun b z => absurd (show b ∈ ([] : List Addr) from z) (by simp)
  refine ⟨⟨e0.mod, S.kind, rfl, rfl, Nat.le_refl _, fun y z c h1 h2 => ?_, fun y hy => ?_, fun y c _ h => ?_, fun _ => hd, Around.frames_deeper e0.frames, .inr ⟨rfl, rfl⟩, fun b z => absurd z (noA b), e0.bs, e0.bsz, fun b _ _ => noA b, fun b z => absurd z (noA b), e0.funs, e0.frf⟩,
    rfl, e0.bare, Un.kept hk, ⟨_, x.toInCall.ns, fun i y v h1 h2 h3 => ?_⟩, fun y c h => ⟨_, x.cell y c h⟩, e0.hok.fresh (Nat.le_refl _), fun y c h => ?_, fun p hp => absurd (show p ∈ ([] : List (Addr × Obj)) from hp) (by simp), e0.hok.kept hk, ?_⟩
  · exact name_of_addr x.apart (PySem.mem_of_lookup h1) (PySem.mem_of_lookup h2)
  · have hy : scope.names.lookup y = some .cell ∨ scope.names.lookup y = some .free := hy
    rcases hy with hy | hy
    · exact cell_has hy
    · exact absurd rfl (S.nofree _ (PySem.mem_of_lookup hy))
  · exact Nat.le_of_lt (x.above y c (PySem.mem_of_lookup h))
  · have hi : i < vs.length := by
      unfold start at h2
      by_cases hi : i < vs.length
      · exact hi
      · rw [List.getElem?_append_right (by simpa using hi)] at h2
        rw [List.getElem?_replicate] at h2
        split at h2 <;> cases h2
    have ha : vs[i]? = some v := by
      unfold start at h2
      rw [List.getElem?_append_left (by simpa using hi), List.getElem?_map] at h2
      cases e : vs[i]? with
      | none => rw [e] at h2; cases h2
      | some a => rw [e] at h2; cases h2; rfl
    obtain ⟨u, hu, rv⟩ := r.get ha
    have hp : ps[i]? = some y := by
      rw [← S.pre, List.getElem?_take_of_lt (by omega)]; exact h1
    have ndP : ps.Nodup := by rw [← S.pre]; exact S.nd.sublist (List.take_sublist _ _)
    refine ⟨u, rv, ?_⟩
    rcases S.par y (List.mem_of_getElem? hp) with k | k
    · exact .inl ⟨k, bindL_get ndP hp hu k⟩
    · obtain ⟨c, e⟩ := cell_has (n := s.heap.objs.size + 1) k
      refine .inr ⟨.inl k, c, e, ?_⟩
      have q := x.cell y c e
      rw [bindC_get ndP hp hu (by show scope.names.lookup y ≠ _; rw [k]; decide)] at q
      exact q
  · exact e0.hok.fresh (Nat.le_of_lt (x.above y c (PySem.mem_of_lookup h)))
  · unfold start
    show _ = N.length
    rw [List.length_append, List.length_map, List.length_replicate]
    omega

/-- THE RULE: a def (or a method) of the text, by its body. The body's reading t is chosen for each entry; it is run at the parameters' values -/
theorem fn_of {CX : CXT} {P : Program} {w : World} {K : PySem.W.Frag} {mg : Str → Option Value} {base : Heap} {k : Nat} {f : Addr} {name qual : Str} {params : Arguments} {body : List Stmt} {scope : Scope} {dV kV doc pm cdv ct oc : Value} {an od : Option Addr}
    {osl : Array (Option Value)} {N ps : List Str} {sp : Sp} (lk : K.lookup f = some ⟨oc, od, .func (PySem.W.fnOf name qual params body scope dV kV doc pm an cdv ct), osl⟩) (hcd : PySem.W.codeIn K cdv qual = true) (S : FnScope N ps scope)
    (len : ∀ vs H Q E, sp vs H Q E → vs.length = ps.length)
    (hbody : ∀ (A : Around) (outer : List Env) (s : Shared) (H : Hp) (vs : List V) (Q : VK) (E : XK), Room k (A.deeper (envOfC qual scope s.heap.objs.size f cdv)) → sp vs H Q E →
      ∃ t, PSs (cxOf CX P w K mg base N qual scope f cdv A outer s H E) body t ∧ t { nx := fun _ H' => Q .non H', rt := Q } (start N vs) H) :
    FnOk P w K mg base CX (k + 1) f (PySem.W.fnOf name qual params body scope dV kV doc pm an cdv ct) ps sp := by
  refine ⟨len, fun A outer s H args us vs Q E hr e0 hb r hsp => ?_⟩
  have hl := len _ _ _ _ hsp
  have KX : K.In s.heap := e0.mod.kin.keeps fun b o e => (e0.bs b o e).1
  have lim : s.heap.NoLimit := e0.mod.nolimit.keeps fun b o e => (e0.bs b o e).1
  have hkind : ∀ y ∈ ps.zip us, scope.names.lookup y.1 = some .local ∨ (scope.names.lookup y.1 = some .cell ∧ ((cellsFrom (s.heap.objs.size + 1) scope.names []).lookup y.1).isSome = true) := fun ⟨n, v⟩ hy => by
    rcases S.par n (List.of_mem_zip hy).1 with q | q
    · exact .inl q
    · exact .inr ⟨q, PySem.W.cellsFrom_some _ _ _ (.inl q)⟩
  refine codeAny_call_function hr.depth (KX _ _ lk) rfl S.co S.gen rfl (PySem.W.codeRec_of KX hcd) (hb _ _ _ _ ?_)
  refine wpAny_newFunctionEnv_cells S.kind hkind fun env he s1 x => ?_
  subst he
  refine ⟨lim.keeps x.toInCall.keep, codeAny_func ?_⟩
  obtain ⟨t, ht, hq⟩ := hbody A outer s H vs Q E (hr.deeper _) hsp
  have I : Inv (cxOf CX P w K mg base N qual scope f cdv A outer s H E) [] (start N vs) H s1 := inv_start S hr.hd e0 hl r x
  refine wpAny_mono (ht [] s1 (start N vs) H _ I hq) (fun fl s' hs => ?_) fun e s' hs => hs
  have fin : ∀ {σ' : St} {H' : Hp} {v : V} {u : Value}, Inv (cxOf CX P w K mg base N qual scope f cdv A outer s H E) [] σ' H' s' → RelV v u → Q v H' → CE outer P w H s Q u s' :=
    fun {σ' H' v u} J rv q => ⟨v, H', J.os, J.bare, J.base, J.hok, rv, q⟩
  cases fl with
  | ret u =>
    obtain ⟨v, σ', H', J, rv, q⟩ := hs
    exact fin J rv q
  | next =>
    obtain ⟨σ', H', J, q⟩ := hs
    exact fin (v := V.non) (u := Value.none) J rfl q
  | brk =>
    obtain ⟨_, _, _, q⟩ := hs
    exact False.elim q
  | cont =>
    obtain ⟨_, _, _, q⟩ := hs
    exact False.elim q
end L2

namespace L2
open PySem PySem.Spec PyProof.Rows
section
variable {X : Cx} {x : Str} {p pos : Pos} {e : Expr} {es : List Expr} {t : TA} {id T : String} {r : List V → Hp → VK → Prop}

def tCB (r : List V → Hp → VK → Prop) (t : TA) : TE := fun σ H Q => t σ H fun vs H1 => r vs H1 Q
/-- f(e, ..), f a built-in function -/
theorem pe_callB (hc : CallR X (.builtin id) r) (hg : Gl X x) (hm : X.mg x = none) (hv : bootBuiltins x = some (.builtin id)) (ha : PA X (e :: es) t) (hn : x ≠ "__name__" := by decide) (hdb : (x == ("__debug__" : Str)) = false := by decide)
    (he : starEach (e :: es) X.env = (false, eval e X.env) :: starEach es X.env := by rfl) (hpl : (backTo pos (starEach es X.env)).any (·.1) = false := by rfl) : PE X (.Call (.Name x p) (e :: es) [] pos) (tCB r t) := by
  intro pins s σ H Q I h
  refine wpAny_Call_Name_kw (ld_blt I hg hm hv ?_ hn hdb)
  exact PyProof.Rows.callWith_builtin1 (thn (ha pos pins s σ H _ I h) fun us s1 ⟨vs, H1, I1, r1, q1⟩ => hc pins s1 σ H1 vs us Q I1 r1 q1) he hpl
/-- T(e, ..), T a built-in type -/
theorem pe_callTy (hc : CallR X (.type T) r) (hg : Gl X x) (hm : X.mg x = none) (hv : bootBuiltins x = some (.type T)) (ha : PA X (e :: es) t) (hn : x ≠ "__name__" := by decide) (hdb : (x == ("__debug__" : Str)) = false := by decide)
    (he : starEach (e :: es) X.env = (false, eval e X.env) :: starEach es X.env := by rfl) (hpl : (backTo pos (starEach es X.env)).any (·.1) = false := by rfl) : PE X (.Call (.Name x p) (e :: es) [] pos) (tCB r t) := by
  intro pins s σ H Q I h
  refine wpAny_Call_Name_kw (ld_blt I hg hm hv ?_ hn hdb)
  exact PyProof.Rows.callWith_type1 (thn (ha pos pins s σ H _ I h) fun us s1 ⟨vs, H1, I1, r1, q1⟩ => hc pins s1 σ H1 vs us Q I1 r1 q1) he hpl
end
end L2

namespace L2
open PySem PySem.Spec PyProof.Rows

/-! ### lists of pairs as tables -/
section
variable {κ : Type} [DecidableEq κ]
def valV (kvs : List (κ × V)) (k : κ) : Option V := (kvs.find? fun kv => decide (kv.1 = k)).map (·.2)
/-- in its place, or at the end -/
def putK (kvs : List (κ × V)) (k : κ) (v : V) : List (κ × V) :=
  if (kvs.any fun kv => decide (kv.1 = k)) = true then kvs.map (fun kv => if kv.1 = k then (kv.1, v) else kv) else kvs ++ [(k, v)]
def dropK (kvs : List (κ × V)) (k : κ) : List (κ × V) := kvs.filter fun kv => decide (kv.1 ≠ k)

theorem valV_pos {p : κ × V} {r : List (κ × V)} {k : κ} (e : p.1 = k) : valV (p :: r) k = some p.2 := by simp [valV, List.find?_cons, e]
theorem valV_neg {p : κ × V} {r : List (κ × V)} {k : κ} (e : ¬ p.1 = k) : valV (p :: r) k = valV r k := by simp [valV, List.find?_cons, e]
theorem valV_any (k : κ) : ∀ kvs : List (κ × V), (kvs.any fun kv => decide (kv.1 = k)) = (valV kvs k).isSome
  | [] => rfl
  | p :: r => by
    rw [List.any_cons]
    by_cases e : p.1 = k
    · simp only [valV_pos e, decide_eq_true e, Bool.true_or, Option.isSome_some]
    · rw [valV_neg e, decide_eq_false e, Bool.false_or]; exact valV_any k r
theorem valV_map (k j : κ) (y : V) : ∀ kvs : List (κ × V), valV (kvs.map fun kv => if kv.1 = k then (kv.1, y) else kv) j = (valV kvs j).map fun x => if j = k then y else x
  | [] => rfl
  | p :: r => by
    have ih := valV_map k j y r
    rw [List.map_cons]
    by_cases h : p.1 = k
    · rw [if_pos h]
      by_cases e : p.1 = j
      · rw [valV_pos (p := (p.1, y)) e, valV_pos e, Option.map_some, if_pos (e.symm.trans h)]
      · rw [valV_neg (p := (p.1, y)) e, valV_neg e, ih]
    · rw [if_neg h]
      by_cases e : p.1 = j
      · rw [valV_pos (p := p) e, valV_pos e, Option.map_some, if_neg (fun z => h (e.trans z))]
      · rw [valV_neg (p := p) e, valV_neg e, ih]
theorem valV_snoc (k j : κ) (y : V) : ∀ kvs : List (κ × V), valV kvs k = none → valV (kvs ++ [(k, y)]) j = if j = k then some y else valV kvs j
  | [], _ => by
    by_cases e : k = j
    · rw [if_pos e.symm]; exact valV_pos (p := (k, y)) e
    · rw [if_neg (fun z => e z.symm)]; exact valV_neg (p := (k, y)) e
  | p :: r, hn => by
    rw [List.cons_append]
    have hk : ¬ p.1 = k := fun z => by rw [valV_pos z] at hn; cases hn
    rw [valV_neg hk] at hn
    have ih := valV_snoc k j y r hn
    by_cases e : p.1 = j
    · rw [valV_pos e, valV_pos e, if_neg (fun z => hk (e.trans z))]
    · rw [valV_neg e, valV_neg e, ih]
theorem valV_put (kvs : List (κ × V)) (k j : κ) (y : V) : valV (putK kvs k y) j = if j = k then some y else valV kvs j := by
  unfold putK
  by_cases a : (kvs.any fun kv => decide (kv.1 = k)) = true
  · rw [if_pos a, valV_map]
    rw [valV_any] at a
    by_cases e : j = k
    · obtain ⟨x, hx⟩ := Option.isSome_iff_exists.mp a
      rw [if_pos e, e, hx, Option.map_some, if_pos rfl]
    · rw [if_neg e]
      cases valV kvs j with
      | none => rfl
      | some x => rw [Option.map_some, if_neg e]
  · rw [if_neg a]
    refine valV_snoc k j y kvs ?_
    rw [valV_any] at a
    cases q : valV kvs k with
    | none => rfl
    | some x => rw [q] at a; exact (a rfl).elim
theorem length_putK (kvs : List (κ × V)) (k : κ) (v : V) : (putK kvs k v).length ≤ kvs.length + 1 := by
  unfold putK
  split
  · rw [List.length_map]; omega
  · rw [List.length_append, List.length_cons, List.length_nil]; omega

theorem RelO.isSome_eq {o : Option V} {u : Option Value} (r : RelO o u) : o.isSome = u.isSome := by
  cases o with
  | none => cases u with
    | none => rfl
    | some _ => exact (show False from r).elim
  | some _ => cases u with
    | none => exact (show False from r).elim
    | some _ => rfl
theorem RelO.getD {o : Option V} {u : Option Value} {d : V} {d' : Value} (r : RelO o u) (rd : RelV d d') : RelV (o.getD d) (u.getD d') := by
  cases o with
  | none => cases u with
    | none => exact rd
    | some _ => exact (show False from r).elim
  | some _ => cases u with
    | none => exact (show False from r).elim
    | some _ => exact r

/-- raw tables of the same keys -/
theorem KV.val {kvs : List (κ × V)} {vs : List (κ × Value)} (r : KV kvs vs) (k : κ) : RelO (valV kvs k) (valueAt vs k) := by
  unfold KV at r
  induction r with
  | nil => exact True.intro
  | @cons p q ps qs h t ih =>
    obtain ⟨h1, h2⟩ := h
    by_cases e : p.1 = k
    · have e' : q.1 = k := h1.symm.trans e
      have b : valueAt (q :: qs) k = some q.2 := by simp [valueAt, List.find?_cons, e']
      rw [valV_pos e, b]; exact h2
    · have e' : ¬ q.1 = k := fun z => e (h1.trans z)
      have b : valueAt (q :: qs) k = valueAt qs k := by simp [valueAt, List.find?_cons, e']
      rw [valV_neg e, b]; exact ih
theorem KV.any {kvs : List (κ × V)} {vs : List (κ × Value)} (r : KV kvs vs) (k : κ) : (kvs.any fun kv => decide (kv.1 = k)) = vs.any fun kv => decide (kv.1 = k) := by
  unfold KV at r
  induction r with
  | nil => rfl
  | cons h t ih => rw [List.any_cons, List.any_cons, ih, h.1]
theorem KV.repl {kvs : List (κ × V)} {vs : List (κ × Value)} (r : KV kvs vs) (k : κ) {y : V} {u : Value} (ry : RelV y u) :
    KV (kvs.map fun kv => if kv.1 = k then (kv.1, y) else kv) (vs.map fun kv => if kv.1 = k then (kv.1, u) else kv) := by
  unfold KV at r ⊢
  induction r with
  | nil => exact .nil
  | @cons p q ps qs h t ih =>
    rw [List.map_cons, List.map_cons]
    refine .cons ?_ ih
    obtain ⟨h1, h2⟩ := h
    by_cases e : p.1 = k
    · rw [if_pos e, if_pos (h1.symm.trans e)]; exact ⟨h1, ry⟩
    · rw [if_neg e, if_neg (fun z => e (h1.trans z))]; exact ⟨h1, h2⟩
theorem KV.put {kvs : List (κ × V)} {vs : List (κ × Value)} (r : KV kvs vs) (k : κ) {y : V} {u : Value} (ry : RelV y u) : KV (putK kvs k y) (stored vs k u) := by
  unfold putK stored
  rw [r.any k]
  by_cases e : (vs.any fun kv => decide (kv.1 = k)) = true
  · rw [if_pos e, if_pos e]; exact r.repl k ry
  · rw [if_neg e, if_neg e]; exact Paired.snoc r ⟨rfl, ry⟩
theorem KV.length {kvs : List (κ × V)} {vs : List (κ × Value)} (r : KV kvs vs) : kvs.length = vs.length := Paired.length r
end


/-! ### a tracked dict, its keys ints and texts or tuples of these -/
theorem kV_is {P : Program} {w : World} {k : Key} {u : Value} (r : RelV (kV k) u) : (mixKind P w).is k u = true := by
  cases k with
  | inl i => obtain ⟨t, e⟩ := (show ∃ t, u = Value.int i t from r); subst e; exact mixKind_int P w i t
  | inr x => obtain ⟨t, e⟩ := (show ∃ t, u = Value.str x t from r); subst e; exact mixKind_str P w x t
theorem items_are {P : Program} {w : World} : ∀ {ks : List Key} {us : List Value}, Vals (ks.map kV) us → ItemsAre (mixKind P w) ks us
  | [], _, r => by rw [List.map_nil] at r; cases r; exact .nil
  | k :: ks, _, r => by
    rw [List.map_cons] at r
    cases r with
    | cons h t => exact .cons (kV_is h) (items_are t)

/-- raw entries of a dict with tuple keys -/
abbrev KT (H : Hp) : List (List Key × V) → List (List Key × Addr × Value) → Prop := Paired fun p q => p.1 = q.1 ∧ H q.2.1 = some (.tup (p.1.map kV)) ∧ RelV p.2 q.2.2
theorem KT.val {H : Hp} {kvs : List (List Key × V)} {xs : List (List Key × Addr × Value)} (r : KT H kvs xs) (k : List Key) : RelO (valV kvs k) ((atKey xs k).map (·.2)) := by
  induction r with
  | nil => exact True.intro
  | @cons p q ps qs h t ih =>
    obtain ⟨h1, _, h2⟩ := h
    by_cases e : p.1 = k
    · have e' : q.1 = k := h1.symm.trans e
      have b : atKey (q :: qs) k = some q.2 := by simp [atKey, List.find?_cons, e']
      rw [valV_pos e, b]; exact h2
    · have e' : ¬ q.1 = k := fun z => e (h1.trans z)
      have b : atKey (q :: qs) k = atKey qs k := by simp [atKey, List.find?_cons, e']
      rw [valV_neg e, b]; exact ih
theorem KT.repl {H : Hp} {kvs : List (List Key × V)} {xs : List (List Key × Addr × Value)} (r : KT H kvs xs) (k : List Key) {y : V} {u : Value} (ry : RelV y u) :
    KT H (kvs.map fun kv => if kv.1 = k then (kv.1, y) else kv) (xs.map (putAt k u)) := by
  induction r with
  | nil => exact .nil
  | @cons p q ps qs h t ih =>
    rw [List.map_cons, List.map_cons]
    refine .cons ?_ ih
    obtain ⟨h1, h2, h3⟩ := h
    unfold putAt
    by_cases e : p.1 = k
    · rw [if_pos e, if_pos (h1.symm.trans e)]; exact ⟨h1, h2, ry⟩
    · rw [if_neg e, if_neg (fun z => e (h1.trans z))]; exact ⟨h1, h2, h3⟩
theorem KT.put {H : Hp} {kvs : List (List Key × V)} {xs : List (List Key × Addr × Value)} (r : KT H kvs xs) (k : List Key) {b : Addr} {y : V} {u : Value} (hb : H b = some (.tup (k.map kV))) (ry : RelV y u) :
    KT H (putK kvs k y) (storedH xs k b u) := by
  have e : (kvs.any fun kv => decide (kv.1 = k)) = (atKey xs k).isSome := by
    rw [valV_any, (r.val k).isSome_eq, Option.isSome_map]
  unfold putK storedH
  rw [e]
  by_cases q : (atKey xs k).isSome = true
  · rw [if_pos q, if_pos q]; exact r.repl k ry
  · rw [if_neg q, if_neg q]; exact Paired.snoc r ⟨rfl, hb, ry⟩
theorem KT.keeps {H H' : Hp} {kvs : List (List Key × V)} {xs : List (List Key × Addr × Value)} (r : KT H kvs xs) (ht : ∀ b ys, H b = some (.tup ys) → H' b = some (.tup ys)) : KT H' kvs xs :=
  Paired.mapP r fun _ _ z => ⟨z.1, ht _ _ z.2.1, z.2.2⟩

section
variable {P : Program} {w : World} {H : Hp} {h : Heap} {a : Addr}
theorem rd_of {u : HO} (ok : HOk P w H h) (e : Rd H a u) : ObjOk P w H h a u := e.ok ok
theorem dk_rd {kvs : List (Key × V)} (ok : HOk P w H h) (e : Rd H a (.dK kvs)) : kvs.length ≤ sizeLine ∧ (a == sysModules) = false ∧ ∃ vs, KV kvs vs ∧ h.DictOf (mixKind P w) a vs :=
  show ObjOk P w H h a (.dK kvs) from rd_of ok e
theorem dk_of {kvs : List (Key × V)} (ok : HOk P w H h) (e : H a = some (.dK kvs)) : kvs.length ≤ sizeLine ∧ (a == sysModules) = false ∧ ∃ vs, KV kvs vs ∧ h.DictOf (mixKind P w) a vs := dk_rd ok (.inl e)
/-- a tracked tuple of ints and texts is a key -/
theorem key_of {ks : List Key} (ok : HOk P w H h) (e : H a = some (.tup (ks.map kV))) : (tupleKind (mixKind P w)).is h ks a := by
  obtain ⟨_, its, r, o, h1, h2, n, h3⟩ := (show ObjOk P w H h a (.tup (ks.map kV)) from ok a _ e)
  exact ⟨o, its.toArray, n, h1, h2, h3, by simpa using items_are r⟩
theorem dt_rd {kvs : List (List Key × V)} (ok : HOk P w H h) (e : Rd H a (.dT kvs)) : kvs.length ≤ sizeLine ∧ (a == sysModules) = false ∧
    ∃ xs, KT H kvs xs ∧ h.DictOfH (tupleKind (mixKind P w)) a xs := by
  obtain ⟨z, y, xs, r, o, es, ep, h1, h2, h3, h4, h5⟩ := (show ObjOk P w H h a (.dT kvs) from rd_of ok e)
  refine ⟨z, y, xs, r, o, es, ep, h1, h2, h3, h4, fun x hx => ?_, h5⟩
  have all : ∀ {l : List (List Key × V)} {m : List (List Key × Addr × Value)}, KT H l m → ∀ x ∈ m, (tupleKind (mixKind P w)).is h x.1 x.2.1 := by
    intro l m q
    induction q with
    | nil => intro x hx; exact nomatch hx
    | @cons p q ps qs hq t ih =>
      intro x hx
      rcases List.mem_cons.mp hx with e | hx
      · subst e
        exact key_of ok (by rw [← hq.1]; exact hq.2.1)
      · exact ih x hx
  exact all r x hx
theorem dt_of {kvs : List (List Key × V)} (ok : HOk P w H h) (e : H a = some (.dT kvs)) : kvs.length ≤ sizeLine ∧ (a == sysModules) = false ∧
    ∃ xs, KT H kvs xs ∧ h.DictOfH (tupleKind (mixKind P w)) a xs := dt_rd ok (.inl e)
end

/-- what the dict at a holds at the key y -/
def DGet (H : Hp) (a : Addr) (y : V) (r : Option V) : Prop :=
  (∃ kvs k, Rd H a (.dK kvs) ∧ y = kV k ∧ r = valV kvs k) ∨ ∃ kvs k b, Rd H a (.dT kvs) ∧ y = .ref b ∧ H b = some (.tup (k.map kV)) ∧ r = valV kvs k
/-- the heap behind a[y] = v -/
def DPut (H : Hp) (a : Addr) (y v : V) (H' : Hp) : Prop :=
  (∃ kvs k, H a = some (.dK kvs) ∧ y = kV k ∧ kvs.length < sizeLine ∧ H' = upd H a (.dK (putK kvs k v))) ∨
  ∃ kvs k b, H a = some (.dT kvs) ∧ y = .ref b ∧ H b = some (.tup (k.map kV)) ∧ kvs.length < sizeLine ∧ H' = upd H a (.dT (putK kvs k v))
theorem DGet.k {H : Hp} {a : Addr} {kvs : List (Key × V)} {k : Key} (e : H a = some (.dK kvs)) : DGet H a (kV k) (valV kvs k) := .inl ⟨kvs, k, .inl e, rfl, rfl⟩
theorem DPut.k {H : Hp} {a : Addr} {kvs : List (Key × V)} {k : Key} {v : V} (e : H a = some (.dK kvs)) (hl : kvs.length < sizeLine) : DPut H a (kV k) v (upd H a (.dK (putK kvs k v))) := .inl ⟨kvs, k, e, rfl, hl, rfl⟩


section
variable {X : Cx} {pins : List (Addr × Obj)} {σ : St} {H : Hp} {s : Shared} {a : Addr} {y v : V} {u r : Value} {o : Option V} {A : Around} {E : Value → Shared → Prop}

theorem Inv.big (I : Inv X pins σ H s) : sysModules < s.heap.objs.size := by
  have h : mainGlobals < s.heap.objs.size := (I.mod.glob.keeps I.bk).lt
  exact Nat.lt_trans (by decide) h

/-- d[y], there -/
theorem d_getItem {Q : Value → Shared → Prop} (hu : A.units + 1 < cLine) (I : Inv X pins σ H s) (g : DGet H a y (some v)) (ry : RelV y u) (h : ∀ w' s', Inv X pins σ H s' → RelV v w' → Q w' s') :
    wpAny (model X.prog X.w) A (getItem (.ref a) u) Q E s := by
  rcases g with ⟨kvs, k, e, ey, l⟩ | ⟨kvs, k, b, e, ey, eb, l⟩
  · subst ey
    obtain ⟨z, hd, vs, rel, dd⟩ := dk_rd I.hok e
    obtain ⟨w', hw, rw'⟩ := RelO.some_of (v := v) (o := valueAt vs k) (by rw [l]; exact rel.val k)
    exact wpAny_getItem_of (kV_is ry) dd.mapOf hw (h w' _ (I.tok _) rw')
  · subst ey
    cases (show u = Value.ref b from ry)
    obtain ⟨z, hd, xs, rel, dd⟩ := dt_rd I.hok e
    obtain ⟨w', hw, rw'⟩ := RelO.some_of (v := v) (o := (atKey xs k).map (·.2)) (by rw [l]; exact rel.val k)
    obtain ⟨p, hp, hp2⟩ := Option.map_eq_some_iff.mp hw
    refine wpAny_getItem_heap (tupleKind_room_in1 hu) (key_of I.hok eb) dd hp ?_
    rw [hp2]
    exact h w' _ (I.tok _) rw'
theorem d_notIn {Q : Value → Shared → Prop} (hu : A.units + 1 < cLine) (I : Inv X pins σ H s) (g : DGet H a y o) (ry : RelV y u) (h : ∀ s', Inv X pins σ H s' → Q (.bool (!o.isSome)) s') :
    wpAny (model X.prog X.w) A (compareOp .NotIn u (.ref a)) Q E s := by
  rcases g with ⟨kvs, k, e, ey, l⟩ | ⟨kvs, k, b, e, ey, eb, l⟩
  · subst ey
    obtain ⟨z, hd, vs, rel, dd⟩ := dk_rd I.hok e
    refine wpAny_notIn_of (kV_is ry) hd dd.mapOf ?_
    rw [← (rel.val k).isSome_eq, ← l]
    exact h _ (I.tok _)
  · subst ey
    cases (show u = Value.ref b from ry)
    obtain ⟨z, hd, xs, rel, dd⟩ := dt_rd I.hok e
    refine wpAny_notIn_heap (tupleKind_room_in1 hu) (key_of I.hok eb) hd dd ?_
    have q := (rel.val k).isSome_eq
    rw [Option.isSome_map] at q
    rw [← q, ← l]
    exact h _ (I.tok _)
/-- a dict's object is replaced -/
theorem d_write {h' : Heap} {t' : Nat} {ob : HO} (I : Inv X pins σ H s) (mu : Mut (H a)) (hs : Heap.SameBut a s.heap h') (he : ∃ q, h'.get? a = some q) (new : ObjOk X.prog X.w (upd H a ob) h' a ob) :
    Inv X pins σ (upd H a ob) { s with heap := h', toks := t' } :=
  I.write (x := a) (e := a) mu (.inl rfl) (fun b q hb z => (hs.2 b hb).trans z) he new
theorem dk_new {P : Program} {w : World} {H' : Hp} {h' : Heap} {kvs : List (Key × V)} {vs : List (Key × Value)} (z : kvs.length ≤ sizeLine) (hd : (a == sysModules) = false) (rel : KV kvs vs) (dd : h'.DictOf (mixKind P w) a vs) :
    ObjOk P w H' h' a (.dK kvs) := ⟨z, hd, vs, rel, dd⟩
/-- d[y] = v -/
theorem d_setItem {H' : Hp} {Q : Unit → Shared → Prop} (hu : A.units + 1 < cLine) (I : Inv X pins σ H s) (g : DPut H a y v H') (ry : RelV y u) (rv : RelV v r) (h : ∀ s', Inv X pins σ H' s' → Q () s') :
    wpAny (model X.prog X.w) A (setItem (.ref a) u r) Q E s := by
  rcases g with ⟨kvs, k, e, ey, l, eH⟩ | ⟨kvs, k, b, e, ey, eb, l, eH⟩
  · subst ey eH
    obtain ⟨z, hd, vs, rel, dd⟩ := dk_of I.hok e
    have hz : vs.length ≤ sizeLine := by rw [← rel.length]; exact z
    have hl : (putK kvs k v).length ≤ sizeLine := by have := length_putK kvs k v; omega
    refine wpAny_setItem_pairs (hsz := hz) (kV_is ry) dd fun h' dd' hs => h _ ?_
    have he : ∃ q, h'.get? a = some q := let ⟨q, _, _, hq, _⟩ := dd'; ⟨q, hq⟩
    exact d_write I (by rw [e]; exact True.intro) hs he (dk_new hl hd (rel.put k rv) dd')
  · subst ey eH
    cases (show u = Value.ref b from ry)
    obtain ⟨z, hd, xs, rel, dd⟩ := dt_of I.hok e
    have hz : xs.length ≤ sizeLine := by rw [← Paired.length rel]; exact z
    have hl : (putK kvs k v).length ≤ sizeLine := by have := length_putK kvs k v; omega
    refine wpAny_setItem_heap (hsz := hz) (tupleKind_room_in1 hu) (key_of I.hok eb) dd fun h' dd' hs => h _ ?_
    obtain ⟨q, es, ep, hq, h2, h3, h4, _, h5⟩ := dd'
    refine d_write I (by rw [e]; exact True.intro) hs ⟨q, hq⟩ ⟨hl, hd, _, (rel.put k eb rv).keeps fun c ys ec => ?_, q, es, ep, hq, h2, h3, h4, h5⟩
    rw [upd_ne (ne_of ec e (fun z => nomatch z))]
    exact ec
end

section
variable {X : Cx} {pins : List (Addr × Obj)} {σ : St} {H : Hp} {s : Shared} {a : Addr} {kvs : List (Key × V)} {k : Key} {u : Value} {A : Around} {E : Value → Shared → Prop}
end


/-! ### readings and rules -/
/-- the element of a subscription, not a slice -/
def NoSl (i : Expr) : Prop := ∀ ov iv, subscripted i false ov iv = operate [ov, iv] (getItem ov iv)
theorem subD_of {prog : Program} {w : World} {A : Around} {E : Value → Shared → Prop} {s : Shared} {env : Env} {value slice : Expr} {pos : Pos} {T id : String} {Q : Value → Shared → Prop}
    (hl : typeLookup (.type T) "__getitem__" = pure (some (.builtin id))) (hs : NoSl slice)
    (h : wpAny (model prog w) A (eval value env) (fun o s₁ => wpAny (model prog w) A (eval slice env) (fun i s₂ => s₂.TypeIs o T ∧ wpAny (model prog w) A (getItem o i) Q E s₂) E s₁) E s) :
    wpAny (model prog w) A (eval (.Subscript value slice pos) env) Q E s := by
  refine Subscript_ (wpAny_mono h (fun o s₁ h₁ => wpAny_mono h₁ (fun i s₂ h₂ => ?_) fun _ _ x => x) fun _ _ x => x)
  obtain ⟨hT, h₂⟩ := h₂
  unfold subscriptTail
  refine wpAny_bind ?_
  rw [getitemInPython_of_ne hT.not_modules]
  refine wpAny_bind (wpAny_specialOf hT hl ?_)
  have fin : wpAny (model prog w) A (subscripted slice false o i) (fun r s₃ => wpAny (model prog w) A (letTemporaryGo value o r >>= fun _ => pure r) Q E s₃) E s₂ := by
    rw [hs o i]
    exact wpAny_operating (wpAny_mono h₂ (fun r s₃ h₃ => wpAny_bind (wpAny_letTemporaryGo (wpAny_pure h₃))) fun _ _ x => x)
  first
    | exact wpAny_pure (wpAny_bind fin)
    | exact wpAny_bind (wpAny_pure (wpAny_bind fin))
    | exact wpAny_bind fin

theorem dict_typeIs {X : Cx} {pins : List (Addr × Obj)} {σ : St} {H : Hp} {s : Shared} {a : Addr} {y : V} {o : Option V} (I : Inv X pins σ H s) (g : DGet H a y o) : s.TypeIs (.ref a) "dict" := by
  rcases g with ⟨kvs, k, e, _, _⟩ | ⟨kvs, k, b, e, _, _, _⟩
  · obtain ⟨_, _, vs, _, dd⟩ := dk_rd I.hok e
    exact dd.typeIs
  · obtain ⟨_, _, xs, _, dd⟩ := dt_rd I.hok e
    exact dd.typeIs

/-- d[y] -/
def tDGet (td ty : TE) : TE := fun σ H Q => td σ H fun x H1 => ty σ H1 fun y H2 => ∃ a v, x = .ref a ∧ DGet H2 a y (some v) ∧ Q v H2
/-- y in d, y not in d -/
def tDIn (ty td : TE) : TE := fun σ H Q => ty σ H fun y H1 => td σ H1 fun x H2 => ∃ a o, x = .ref a ∧ DGet H2 a y o ∧ Q (.bl o.isSome) H2
def tDNotIn (ty td : TE) : TE := fun σ H Q => ty σ H fun y H1 => td σ H1 fun x H2 => ∃ a o, x = .ref a ∧ DGet H2 a y o ∧ Q (.bl (!o.isSome)) H2
/-- d[y] = v -/
def sDPut (td ty tv : TE) : TS := fun D σ H => tv σ H fun v H1 => td σ H1 fun x H2 => ty σ H2 fun y H3 => ∃ a H4, x = .ref a ∧ DPut H3 a y v H4 ∧ D.nx σ H4
/-- d[y] op= v -/
def sDAug (td ty tv : TE) (rd : V → V → Hp → VK → Prop) : TS := fun D σ H => td σ H fun x H1 => ty σ H1 fun y H2 => ∃ a v, x = .ref a ∧ DGet H2 a y (some v) ∧
  tv σ H2 fun y2 H3 => rd v y2 H3 fun z H4 => ∃ H5, DPut H4 a y z H5 ∧ D.nx σ H5
/-- del d[y] -/
def sDDel (td ty : TE) : TS := fun D σ H => td σ H fun x H1 => ty σ H1 fun y H2 => ∃ a kvs k, x = .ref a ∧ H2 a = some (.dK kvs) ∧ y = kV k ∧ (valV kvs k).isSome = true ∧ D.nx σ (upd H2 a (.dK (dropK kvs k)))

section
variable {X : Cx} {o i e value : Expr} {pos pos' tpos : Pos} {td ty tv : TE}
theorem pe_dget (hu : X.A.units + 1 < cLine) (ho : PE X o td) (hi : PE X i ty) (hs : NoSl i) : PE X (.Subscript o i pos) (tDGet td ty) := by
  intro pins s σ H Q I h
  refine subD_of PySem.F.slot_dict_getitem.lookup hs (thn (ho pins s σ H _ I h) fun u s1 ⟨x, H1, I1, rx, q1⟩ => thn (hi pins s1 σ H1 _ I1 q1) fun iv s2 ⟨y, H2, I2, ry, a, v, ex, g, q2⟩ => ?_)
  subst ex
  obtain rfl : u = Value.ref a := rx
  exact ⟨dict_typeIs I2 g, d_getItem hu I2 g ry fun w' s3 I3 rw' => ⟨v, H2, I3, rw', q2⟩⟩
theorem pc_dnotin (hu : X.A.units + 1 < cLine) (hi : PE X i ty) (ho : PE X o td) : PC X .NotIn i o (tDNotIn ty td) := by
  intro pins s σ H Q I h
  refine thn (hi pins s σ H _ I h) fun iv s1 ⟨y, H1, I1, ry, q1⟩ => thn (ho pins s1 σ H1 _ I1 q1) fun u s2 ⟨x, H2, I2, rx, a, ov, ex, g, q2⟩ => ?_
  subst ex
  obtain rfl : u = Value.ref a := rx
  exact d_notIn hu I2 g ry fun s3 I3 => ⟨.bl (!ov.isSome), H2, I3, rfl, q2⟩
theorem ps_dput (hu : X.A.units + 1 < cLine) (ho : PE X o td) (hi : PE X i ty) (hv : PE X value tv) (hs : swapsWith value (some (.Subscript o i pos')) pos.line X.env = pure false) :
    PS X (.Assign [.Subscript o i pos'] value pos) (sDPut td ty tv) := by
  intro pins s σ H D I h
  refine wpAny_Assign_Subscript (thn (hv pins s σ H _ I h) fun r s1 ⟨v, H1, I1, rv, q1⟩ => thn (ho pins s1 σ H1 _ I1 q1) fun u s2 ⟨x, H2, I2, rx, q2⟩ => thn (hi pins s2 σ H2 _ I2 q2) fun iv s3 ⟨y, H3, I3, ry, a, H4, ex, g, q3⟩ => ?_) hs
  subst ex
  obtain rfl : u = Value.ref a := rx
  exact d_setItem hu I3 g ry rv fun s4 I4 => ⟨σ, H4, I4, q3⟩
end


/-! ### displays -/
theorem dk_empty {P : Program} {w : World} {H : Hp} (h : Heap) (hb : sysModules < h.objs.size) : ObjOk P w H (h.push { cls := .type "dict", data := .dict #[] }) h.objs.size (.dK []) :=
  ⟨Nat.zero_le _, beq_eq_false_iff_ne.mpr (Ne.symm (Nat.ne_of_lt hb)), [], .nil, Heap.DictOf.new h⟩
/-- {}, to be a dict of the kind that is wanted -/
def tDNewK : TE := fun _ H Q => ∀ p, H p = none → Q (.ref p) (upd H p (.dK []))
def tDNewT : TE := fun _ H Q => ∀ p, H p = none → Q (.ref p) (upd H p (.dT []))
section
variable {X : Cx} {pos : Pos}
end

/-- the pairs of a display, from the left -/
def tPairs : List (TE × TE) → St → Hp → (List (V × V) → Hp → Prop) → Prop
  | [], _, H, Q => Q [] H
  | (tk, tv) :: r, σ, H, Q => tk σ H fun x H1 => tv σ H1 fun y H2 => tPairs r σ H2 fun ps H3 => Q ((x, y) :: ps) H3
abbrev VV : List (V × V) → List (Value × Value) → Prop := Paired fun p q => RelV p.1 q.1 ∧ RelV p.2 q.2
def PPs (X : Cx) (pos : Pos) (keys : List (Option Expr)) (values : List Expr) (trs : List (TE × TE)) : Prop :=
  ∀ (pins : List (Addr × Obj)) (s : Shared) (σ : St) (H : Hp) (Q : List (V × V) → Hp → Prop), Inv X pins σ H s → tPairs trs σ H Q →
    wpAny (model X.prog X.w) X.A (evalPairs (pairTrees keys values X.env pos)) (fun vs s' => ∃ ps H', Inv X pins σ H' s' ∧ VV ps vs ∧ Q ps H') X.xe s
theorem pps_nil {X : Cx} {pos : Pos} : PPs X pos [] [] [] := fun pins s σ H Q I h => pairTrees_nil_walk ⟨[], H, I, .nil, h⟩
theorem pps_cons {X : Cx} {pos : Pos} {k v : Expr} {ks : List (Option Expr)} {vs : List Expr} {tk tv : TE} {trs : List (TE × TE)} (hk : PE X k tk) (hv : PE X v tv) (hr : PPs X pos ks vs trs) :
    PPs X pos (some k :: ks) (v :: vs) ((tk, tv) :: trs) := fun pins s σ H Q I h =>
  pairTrees_cons_walk (thn (hk pins s σ H _ I h) fun u s1 ⟨x, H1, I1, rx, q1⟩ => thn (hv pins s1 σ H1 _ I1 q1) fun w2 s2 ⟨y, H2, I2, ry, q2⟩ =>
    thn (hr pins s2 σ H2 _ I2 q2) fun ws s3 ⟨ps, H3, I3, rel, q3⟩ => ⟨(x, y) :: ps, H3, I3, .cons ⟨rx, ry⟩ rel, q3⟩)

def mergeK (kvs more : List (Key × V)) : List (Key × V) := more.foldl (fun acc kv => putK acc kv.1 kv.2) kvs
theorem KV.merge : ∀ {more : List (Key × V)} {rs : List (Key × Value)} {kvs : List (Key × V)} {vs : List (Key × Value)}, KV more rs → KV kvs vs → KV (mergeK kvs more) (merged vs rs) := by
  intro more rs kvs vs r
  unfold KV at r
  induction r generalizing kvs vs with
  | nil => intro q; exact q
  | @cons p q ps qs h t ih =>
    intro r0
    have e : KV (putK kvs p.1 p.2) (stored vs q.1 q.2) := by
      have := r0.put p.1 h.2
      rw [← h.1]; exact this
    exact ih e
theorem length_mergeK : ∀ (more kvs : List (Key × V)), (mergeK kvs more).length ≤ kvs.length + more.length
  | [], kvs => by show kvs.length ≤ kvs.length + 0; omega
  | p :: r, kvs => by
    have h1 := length_mergeK r (putK kvs p.1 p.2)
    have h2 := length_putK kvs p.1 p.2
    show (mergeK (putK kvs p.1 p.2) r).length ≤ _
    rw [List.length_cons]; omega
theorem carries_of {P : Program} {w : World} : ∀ {kvs : List (Key × V)} {ws : List (Value × Value)}, VV (kvs.map fun kv => (kV kv.1, kv.2)) ws → ∃ rs, Carries (mixKind P w) ws rs ∧ KV kvs rs
  | [], _, r => by rw [List.map_nil] at r; cases r; exact ⟨[], True.intro, .nil⟩
  | p :: kvs, _, r => by
    rw [List.map_cons] at r
    cases r with
    | @cons a b as bs h t =>
      obtain ⟨rs, c, q⟩ := carries_of (P := P) (w := w) t
      obtain ⟨b1, b2⟩ := b
      exact ⟨(p.1, b2) :: rs, ⟨kV_is h.1, rfl, c⟩, .cons ⟨rfl, h.2⟩ q⟩
/-- {k: v, ..} with keys ints and texts; the new dict stands empty while the pairs are made -/
def tDisp (trs : List (TE × TE)) : TE := fun σ H Q => ∀ p, H p = none → tPairs trs σ (upd H p (.dK [])) fun ps H2 => H2 p = some (.dK []) ∧ ∃ kvs : List (Key × V), ps = kvs.map (fun kv => (kV kv.1, kv.2)) ∧ kvs.length ≤ 15 ∧ Q (.ref p) (upd H2 p (.dK (mergeK [] kvs)))
theorem pe_disp {X : Cx} {pos : Pos} {keys : List (Option Expr)} {values : List Expr} {trs : List (TE × TE)} (h : PPs X pos keys values trs) (hall : keys.all (·.isSome) = true) (hl : keys.length = values.length) (h0 : keys ≠ [])
    (h15 : keys.length ≤ 15) : PE X (.Dict keys values pos) (tDisp trs) := by
  intro pins s σ H Q I q
  have hn := I.hok.fresh (Nat.le_refl s.heap.objs.size)
  have I1 := I.laid (a := s.heap.objs.size) (o := .dK []) (h' := s.heap.push { cls := .type "dict", data := .dict #[] }) (t' := s.toks) (fun _ _ q => Heap.get?_push_of_some _ q) (Nat.le_refl _) (dk_empty s.heap I.big)
  refine wpAny_Dict_walk (knd := mixKind X.prog X.w) hall hl h0 h15 (thn (h pins _ σ _ _ I1 (q _ hn)) fun ws s2 ⟨ps, H2, I2, rel, e, kvs, ep, lk, q2⟩ => ?_)
  subst ep
  obtain ⟨rs, c, rk⟩ := carries_of (P := X.prog) (w := X.w) rel
  obtain ⟨z, hd, vs0, r0, dd⟩ := dk_of I2.hok e
  cases r0
  refine ⟨rs, c, dd, fun h' dd' hs => ⟨.ref s.heap.objs.size, _, ?_, rfl, q2⟩⟩
  have hz : (mergeK [] kvs).length ≤ sizeLine := by
    have h1 := length_mergeK kvs []
    rw [List.length_nil] at h1
    rw [sizeLine_eq]; omega
  have he : ∃ q, h'.get? s.heap.objs.size = some q := let ⟨q, _, _, hq, _⟩ := dd'; ⟨q, hq⟩
  exact d_write I2 (by rw [e]; exact True.intro) hs he (dk_new hz hd (rk.merge .nil) dd')


/-! ### methods -/
/-- a method call o.m(e) of a built-in, with one argument: what must be seen of the text -/
structure M1 (X : Cx) (o : Expr) (m : Str) (apos : Pos) (e : Expr) (cpos : Pos) : Prop where
  base : attributeBase o m X.env (eval o X.env) = eval o X.env
  few : ((backTo cpos (starEach [e] X.env)).all (fun x => !x.1) && (backToKw cpos (keywordEach [] X.env)).all (fun x => x.1.isSome)
    && decide (([e] : List Expr).length + ([] : List Keyword).length + (if ([] : List Keyword).isEmpty then 0 else 1) < 30)) = true
  line : (apos.endLine == cpos.line) = true
  trees : backTo cpos (starEach [e] X.env) = [(false, eval e X.env)]
structure M2 (X : Cx) (o : Expr) (m : Str) (apos : Pos) (e f : Expr) (cpos : Pos) : Prop where
  base : attributeBase o m X.env (eval o X.env) = eval o X.env
  few : ((backTo cpos (starEach [e, f] X.env)).all (fun x => !x.1) && (backToKw cpos (keywordEach [] X.env)).all (fun x => x.1.isSome)
    && decide (([e, f] : List Expr).length + ([] : List Keyword).length + (if ([] : List Keyword).isEmpty then 0 else 1) < 30)) = true
  line : (apos.endLine == cpos.line) = true
  trees : backTo cpos (starEach [e, f] X.env) = [(false, eval e X.env), (false, eval f X.env)]

/-- a is a dict, whatever its keys -/
def IsD (H : Hp) (a : Addr) : Prop := (∃ kvs, Rd H a (.dK kvs)) ∨ ∃ kvs, Rd H a (.dT kvs)
theorem isD_at {X : Cx} {pins : List (Addr × Obj)} {σ : St} {H : Hp} {s : Shared} {a : Addr} (I : Inv X pins σ H s) (d : IsD H a) :
    s.TypeIs (.ref a) "dict" ∧ (∀ b, Value.ref a = .ref b → ∃ ob, s.heap.get? b = some ob ∧ ob.dict = none) ∧ (a == sysModules) = false := by
  rcases d with ⟨kvs, e⟩ | ⟨kvs, e⟩
  · obtain ⟨_, hd, vs, _, dd⟩ := dk_rd I.hok e
    refine ⟨dd.typeIs, fun b q => ?_, hd⟩
    cases q
    obtain ⟨ob, _, _, h1, h2, _⟩ := dd
    exact ⟨ob, h1, h2.2.1⟩
  · obtain ⟨_, hd, xs, _, dd⟩ := dt_rd I.hok e
    refine ⟨dd.typeIs, fun b q => ?_, hd⟩
    cases q
    obtain ⟨ob, _, _, h1, h2, _⟩ := dd
    exact ⟨ob, h1, h2.2.1⟩

section
variable {X : Cx} {pins : List (Addr × Obj)} {σ : St} {H : Hp} {s : Shared} {a : Addr} {y d : V} {u r : Value} {o : Option V} {A : Around} {E : Value → Shared → Prop}
/-- d.get(y) -/
theorem d_get1 {Q : Value → Shared → Prop} (hu : A.units + 1 < cLine) (I : Inv X pins σ H s) (g : DGet H a y o) (ry : RelV y u) (h : ∀ w' s', Inv X pins σ H s' → RelV (o.getD .non) w' → Q w' s') :
    wpAny (model X.prog X.w) A (call (.builtin "dict.get") [.ref a, u]) Q E s := by
  rcases g with ⟨kvs, k, e, ey, l⟩ | ⟨kvs, k, b, e, ey, eb, l⟩
  · subst ey
    obtain ⟨z, hd, vs, rel, dd⟩ := dk_rd I.hok e
    refine call_meetsIn PySem.F.slot_dict_get dd.typeIs PySem.F.entry_dict_get (PySem.F.args_dict_get_2 _ _) (meets_dict_get (mixKind X.prog X.w) a (kV_is ry) hd) ⟨_, dd.mapOf, h _ _ (I.tok _) ?_⟩
    rw [l]
    exact (rel.val k).getD rfl
  · subst ey
    cases (show u = Value.ref b from ry)
    obtain ⟨z, hd, xs, rel, dd⟩ := dt_rd I.hok e
    refine call_meetsIn PySem.F.slot_dict_get dd.typeIs PySem.F.entry_dict_get (PySem.F.args_dict_get_2 _ _) (meetsH_dict_get (tupleKind (mixKind X.prog X.w)) a b hd) ⟨tupleKind_room_in1 hu, k, xs, key_of I.hok eb, dd, h _ _ (I.tok _) ?_⟩
    rw [l]
    exact (rel.val k).getD rfl
end

def tDGet1 (td ty : TE) : TE := fun σ H Q => td σ H fun x H1 => ∃ a, x = .ref a ∧ IsD H1 a ∧ ty σ H1 fun y H2 => ∃ o, DGet H2 a y o ∧ Q (o.getD .non) H2
def tDGet2 (td ty tx : TE) : TE := fun σ H Q => td σ H fun x H1 => ∃ a, x = .ref a ∧ IsD H1 a ∧ ty σ H1 fun y H2 => tx σ H2 fun z H3 => ∃ o, DGet H3 a y o ∧ Q (o.getD z) H3
/-- d.pop(k): there; d.pop(k, x): there or not -/
def tDPop1 (td ty : TE) : TE := fun σ H Q => td σ H fun x H1 => ∃ a, x = .ref a ∧ IsD H1 a ∧ ty σ H1 fun y H2 => ∃ kvs k v, H2 a = some (.dK kvs) ∧ y = kV k ∧ valV kvs k = some v ∧ Q v (upd H2 a (.dK (dropK kvs k)))
def tDPop2 (td ty tx : TE) : TE := fun σ H Q => td σ H fun x H1 => ∃ a, x = .ref a ∧ IsD H1 a ∧ ty σ H1 fun y H2 => tx σ H2 fun z H3 => ∃ kvs k, H3 a = some (.dK kvs) ∧ y = kV k ∧
  (∀ v, valV kvs k = some v → Q v (upd H3 a (.dK (dropK kvs k)))) ∧ (valV kvs k = none → Q z H3)
section
variable {X : Cx} {o e f : Expr} {apos cpos : Pos} {td ty tx : TE}
theorem pe_dget1 (hu : X.A.units + 1 < cLine) (ho : PE X o td) (he : PE X e ty) (m : M1 X o "get" apos e cpos) : PE X (.Call (.Attribute o "get" apos) [e] [] cpos) (tDGet1 td ty) := by
  intro pins s σ H Q I h
  refine wpAny_Call_method m.base m.few m.line PySem.F.plainAttrs_dict PySem.F.slot_dict_get PySem.F.type_dict_get (thn (ho pins s σ H _ I h) fun u s1 ⟨x, H1, I1, rx, a, ex, d, q1⟩ => ?_)
  subst ex
  obtain rfl : u = Value.ref a := rx
  obtain ⟨t1, t2, _⟩ := isD_at I1 d
  refine ⟨t1, t2, ?_⟩
  rw [m.trees]
  refine Calls.callWith_builtin rfl (Calls.evalArgs_plain (Calls.spliced_cons (thn (he pins s1 σ H1 _ I1 q1) fun iv s2 ⟨y, H2, I2, ry, ov, g, q2⟩ => Calls.spliced_nil ?_)))
  exact d_get1 hu I2 g ry fun w' s3 I3 rw' => ⟨_, H2, I3, rw', q2⟩
end

/-! ### dict(d): a copy -/
section
variable {X : Cx} {pins : List (Addr × Obj)} {σ : St} {H : Hp} {s : Shared} {a : Addr} {kvs : List (Key × V)} {A : Around} {E : Value → Shared → Prop}
end


section
variable {X : Cx} {pins : List (Addr × Obj)} {σ : St} {H : Hp} {s : Shared} {a : Addr} {y : V} {u : Value} {A : Around} {E : Value → Shared → Prop}
end
end L2

namespace HT
open PySem PyProof.Rows

/-- t < u of tuples of ints -/
def lexLt : List Int → List Int → Bool
  | [], [] => false
  | [], _ :: _ => true
  | _ :: _, [] => false
  | x :: xs, y :: ys => if x = y then lexLt xs ys else decide (x < y)


section
open PySem.SeqAt
open PySem.AutoSeq1 (wpAny_loadPart')
open PySem.MeetsSeq PySem.MeetsSeq2 PySem.MeetsSeq3

end

section
variable {prog : Program} {w : World} {A : Around} {E : Value → Shared → Prop} {s : Shared}



/-! ### t[a:b], not the whole -/
/-- a slice's bound as a place among n (d where it is left out) -/
def sIx (n d : Nat) : Option Int → Nat
  | none => d
  | some v => if v < 0 then (v + (n : Int)).toNat else min v.toNat n

end
end HT

namespace L2
open PySem PySem.Spec PyProof.Rows

/-! ### the parts of a slice -/
abbrev TO := St → Hp → (Option Int → Hp → Prop) → Prop
/-- a slice's part (left out, or an int) -/
def PO (X : Cx) (e : Option Expr) (t : TO) : Prop :=
  ∀ (pins : List (Addr × Obj)) (s : Shared) (σ : St) (H : Hp) (Q : Option Int → Hp → Prop), Inv X pins σ H s → t σ H Q →
    wpAny (model X.prog X.w) X.A (evalPart e X.env) (fun u s' => ∃ o H', Inv X pins σ H' s' ∧ IsPart u o ∧ Q o H') X.xe s
def tNoPart : TO := fun _ H Q => Q none H
def tPart (t : TE) : TO := fun σ H Q => t σ H fun x H1 => ∃ i, x = .int i ∧ Q (some i) H1

theorem intsAre_of {ns : List Int} : ∀ {us : List Value}, Vals (ns.map V.int) us → IntsAre us ns := by
  induction ns with
  | nil => intro us r; rw [List.map_nil] at r; cases r; exact .nil
  | cons n ns ih =>
    intro us r
    rw [List.map_cons] at r
    cases r with
    | cons r1 r2 =>
      obtain ⟨t, e⟩ := r1
      subst e
      exact .cons n t (ih r2)

section
variable {X : Cx} {e : Expr} {te : TE} {lo hi : Option Expr} {tl th : TO} {pos p2 : Pos}

theorem po_none : PO X none tNoPart := by
  intro pins s σ H Q I h
  rw [evalPart_none]
  exact wpAny_pure ⟨none, H, I, .none, h⟩
theorem po_some (h : PE X e te) : PO X (some e) (tPart te) := by
  intro pins s σ H Q I hw
  rw [evalPart_some]
  refine thn (h pins s σ H _ I hw) fun u s1 ⟨x, H1, I1, r1, q1⟩ => ?_
  obtain ⟨i, rfl, q⟩ := q1
  obtain ⟨t, rfl⟩ := r1
  exact ⟨some i, H1, I1, .int i t, q⟩

/-- what a slice of a value is, by values: the slice object stands at sl -/
def SlR (X : Cx) (r : V → Option Int → Option Int → Hp → VK → Prop) : Prop :=
  ∀ (pins : List (Addr × Obj)) (s : Shared) (σ : St) (H : Hp) (x : V) (v vl vu : Value) (lo hi : Option Int) (sl : Addr) (Q : VK), Inv X pins σ H s → RelV x v → s.heap.IsSliceOf sl vl vu .none → IsPart vl lo → IsPart vu hi → r x lo hi H Q →
    ∃ T id, typeLookup (.type T) "__getitem__" = pure (some (.builtin id)) ∧ s.TypeIs v T ∧ wpAny (model X.prog X.w) X.A (getItem v (.ref sl)) (EP X pins σ Q) X.xe s
def tSl (r : V → Option Int → Option Int → Hp → VK → Prop) (te : TE) (tl th : TO) : TE := fun σ H Q => te σ H fun x H1 => tl σ H1 fun l H2 => th σ H2 fun u H3 => r x l u H3 Q
/-- a[lo:hi], any a -/
theorem pe_slice {r : V → Option Int → Option Int → Hp → VK → Prop} (hr : SlR X r) (he : PE X e te) (hl : PO X lo tl) (hu : PO X hi th) : PE X (.Subscript e (.Slice lo hi none p2) pos) (tSl r te tl th) := by
  intro pins s σ H Q I h
  refine Subscript_ (thn (he pins s σ H _ I h) fun v s1 ⟨x, H1, I1, r1, q1⟩ => ?_)
  refine wpAny_Slice (thn (hl pins s1 σ H1 _ I1 q1) fun vl s2 ⟨l, H2, I2, pl, q2⟩ => thn (hu pins s2 σ H2 _ I2 q2) fun vu s3 ⟨u, H3, I3, pu, q3⟩ => ?_)
  rw [evalPart_none]
  refine wpAny_pure ?_
  have I4 : Inv X pins σ H3 { s3 with heap := s3.heap.push { cls := .type "slice", data := .fields #[vl, vu, .none] } } := I3.kept (t' := s3.toks) fun b ob q => Heap.get?_push_of_some _ q
  obtain ⟨T, id, hT, ht, hg⟩ := hr pins { s3 with heap := s3.heap.push { cls := .type "slice", data := .fields #[vl, vu, .none] } } σ H3 x v vl vu l u s3.heap.objs.size Q I4 r1 (Heap.IsSliceOf.new ..) pl pu q3
  show wpAny (model X.prog X.w) X.A (subscriptTail e (.Slice lo hi none p2) v (.ref s3.heap.objs.size)) (EP X pins σ Q) X.xe { s3 with heap := s3.heap.push { cls := .type "slice", data := .fields #[vl, vu, .none] } }
  exact tail_any (ops := [.ref s3.heap.objs.size, v]) ht hT hg (by with_unfolding_all rfl)

/-- the items of xs[lo:hi] -/
def cutV (xs : List V) (lo hi : Option Int) : List V := (xs.drop (HT.sIx xs.length 0 lo)).take (HT.sIx xs.length xs.length hi - HT.sIx xs.length 0 lo)
theorem cutV_length (xs : List V) (lo hi : Option Int) : (cutV xs lo hi).length ≤ xs.length := by
  unfold cutV
  rw [List.length_take, List.length_drop]
  omega
/-- t[lo:hi], not the whole of it (the whole would be t itself) -/
def rSlT (K : PySem.W.Frag) : V → Option Int → Option Int → Hp → VK → Prop := fun x lo hi H Q => ∃ a xs, x = .ref a ∧ SqT K H a xs ∧
  ¬ (HT.sIx xs.length 0 lo = 0 ∧ HT.sIx xs.length xs.length hi = xs.length) ∧ ∀ p, H p = none → Q (.ref p) (upd H p (.tup (cutV xs lo hi)))

/-! ### t < u, t + u -/
def rLtT (K : PySem.W.Frag) : R2 := fun x y H Q => ∃ a b ns ms, x = .ref a ∧ y = .ref b ∧ SqT K H a (ns.map V.int) ∧ SqT K H b (ms.map V.int) ∧ Q (.bl (HT.lexLt ns ms)) H
/-- t + u, t not empty: u empty gives t itself -/
def rCatT (K : PySem.W.Frag) : R2 := fun x y H Q => ∃ a b xs ys, x = .ref a ∧ y = .ref b ∧ SqT K H a xs ∧ SqT K H b ys ∧ xs ≠ [] ∧ xs.length + ys.length ≤ sizeLine ∧
  (ys = [] → Q (.ref a) H) ∧ (ys ≠ [] → ∀ p, H p = none → Q (.ref p) (upd H p (.tup (xs ++ ys))))
end
end L2

namespace L2
open PySem PySem.Spec PyProof.Rows

/-! ### places -/
/-- the place that an index of any sign means -/
def ixN (n : Nat) (i : Int) : Option Nat := if 0 ≤ i then (if i < n then some i.toNat else none) else if -(n : Int) ≤ i then some (i + n).toNat else none
def atI {α : Type} (xs : List α) (i : Int) : Option α := (ixN xs.length i).bind fun j => xs[j]?
theorem ixN_seq {n : Nat} {i : Int} {j : Nat} (h : ixN n i = some j) : seqIndex? i n = some j ∧ j < n ∧ -(n : Int) ≤ i ∧ i < n := by
  unfold ixN at h
  by_cases h0 : 0 ≤ i
  · rw [if_pos h0] at h
    by_cases h1 : i < n
    · rw [if_pos h1] at h
      have e : i.toNat = j := Option.some.inj h
      exact ⟨by rw [seqIndex_of h0 h1, e], by omega, by omega, h1⟩
    · rw [if_neg h1] at h; cases h
  · rw [if_neg h0] at h
    by_cases h1 : -(n : Int) ≤ i
    · rw [if_pos h1] at h
      have e : (i + n).toNat = j := Option.some.inj h
      exact ⟨by rw [seqIndex_neg (by omega) h1, e], by omega, h1, by omega⟩
    · rw [if_neg h1] at h; cases h
theorem atI_get {α : Type} {xs : List α} {i : Int} {v : α} (h : atI xs i = some v) : ∃ j, seqIndex? i xs.length = some j ∧ xs[j]? = some v ∧ j < xs.length ∧ -(xs.length : Int) ≤ i ∧ i < xs.length := by
  unfold atI at h
  cases e : ixN xs.length i with
  | none => rw [e] at h; cases h
  | some j =>
    rw [e] at h
    obtain ⟨h1, h2, h3, h4⟩ := ixN_seq e
    exact ⟨j, h1, h, h2, h3, h4⟩
theorem atI_nat {α : Type} {xs : List α} {j : Nat} {v : α} (h : xs[j]? = some v) : atI xs (j : Int) = some v := by
  have hj : j < xs.length := (List.getElem?_eq_some_iff.mp h).1
  have e : ixN xs.length (j : Int) = some j := by
    unfold ixN
    rw [if_pos (by omega), if_pos (by omega)]; simp
  unfold atI; rw [e]; exact h
theorem atI_last {α : Type} (xs : List α) (v : α) : atI (xs ++ [v]) (-1) = some v := by
  have hl : (xs ++ [v]).length = xs.length + 1 := by simp
  have e : ixN (xs ++ [v]).length (-1) = some xs.length := by
    unfold ixN
    rw [hl, if_neg (by decide), if_pos (by omega)]
    congr 1
    omega
  unfold atI
  rw [e]
  show (xs ++ [v])[xs.length]? = some v
  simp

/-! ### what may be subscripted -/
/-- what stands as an index of a plain subscript -/
def PlainIx (b : Expr) : Prop := ∀ o i, subscripted b false o i = operate [o, i] (getItem o i)
/-- a subscript by values -/
def IxR (X : Cx) (r : R2) : Prop :=
  ∀ (value slice : Expr) (pins : List (Addr × Obj)) (s : Shared) (σ : St) (H : Hp) (x y : V) (v u : Value) (Q : VK), Inv X pins σ H s → RelV x v → RelV y u → r x y H Q →
    subscripted slice false v u = operate [v, u] (getItem v u) → wpAny (model X.prog X.w) X.A (subscriptTail value slice v u) (EP X pins σ Q) X.xe s
/-- a call of a builtin's method by values: the receiver, the arguments -/
def MtR (X : Cx) (id : String) (r : V → List V → Hp → VK → Prop) : Prop :=
  ∀ (pins : List (Addr × Obj)) (s : Shared) (σ : St) (H : Hp) (x : V) (xs : List V) (v : Value) (us : List Value) (Q : VK), Inv X pins σ H s → RelV x v → Vals xs us → r x xs H Q →
    wpAny (model X.prog X.w) X.A (call (.builtin id) (v :: us)) (EP X pins σ Q) X.xe s
section
variable {X : Cx} {a b : Expr} {ta tb : TE} {pos : Pos}
/-- a[b] -/
theorem pe_ix {r : R2} (hr : IxR X r) (ha : PE X a ta) (hb : PE X b tb) (hs : PlainIx b) : PE X (.Subscript a b pos) (tOp r ta tb) := by
  intro pins s σ H Q I h
  exact Subscript_ (binT ha hb I h fun v u s2 x y H2 I2 rx ry q => hr a b pins s2 σ H2 x y v u Q I2 rx ry q (hs _ _))

def rIxL (K : PySem.W.Frag) : R2 := fun x y H Q => ∃ p xs i v, x = .ref p ∧ y = .int i ∧ SqL K H p xs ∧ atI xs i = some v ∧ Q v H
def rIxT (K : PySem.W.Frag) : R2 := fun x y H Q => ∃ p xs i v, x = .ref p ∧ y = .int i ∧ SqT K H p xs ∧ atI xs i = some v ∧ Q v H
def rIxS : R2 := fun x y H Q => ∃ z i c, x = .str z ∧ y = .int i ∧ z.length ≤ sizeLine ∧ atI z.cps.toList i = some c ∧ Q (.str ⟨#[c]⟩) H
theorem ix_list : IxR X (rIxL X.K) := by
  intro value slice pins s σ H x y v u Q I rx ry h hs
  obtain ⟨p, xs, i, z, rfl, rfl, hq, he, q⟩ := h
  cases rx
  obtain ⟨t, rfl⟩ := ry
  obtain ⟨its, r, pl, hz⟩ := I.list hq
  obtain ⟨j, h1, h2, h3, h4, h5⟩ := atI_get he
  obtain ⟨w, ew, rw'⟩ := r.get h2
  have hl := r.length
  have hn := line63
  have fin : EP X pins σ Q w s := ⟨z, H, I, rw', q⟩
  by_cases h0 : 0 ≤ i
  · have hj : i.toNat = j := by
      rw [seqIndex_of h0 h5] at h1
      exact Option.some.inj h1
    exact item_listR pl.isList h0 (by omega) (by rw [hj]; simpa using ew) fin hs
  · have hj : (i + (its.toArray.size : Int)).toNat = j := by
      rw [seqIndex_neg (by omega) h4] at h1
      rw [List.size_toArray, ← hl]
      exact Option.some.inj h1
    exact subscriptTail_builtinR (x := w) pl.isList.typeIs slot_list_getitem.lookup
      (wpAny_getItem_list_neg (Q := fun r s' => r = w ∧ EP X pins σ Q r s') pl.isList (by omega) (by rw [List.size_toArray] <;> omega) (by omega) (by rw [hj]; simpa using ew) ⟨rfl, fin⟩) hs
theorem ix_tup : IxR X (rIxT X.K) := by
  intro value slice pins s σ H x y v u Q I rx ry h hs
  obtain ⟨p, xs, i, z, rfl, rfl, hq, he, q⟩ := h
  cases rx
  obtain ⟨t, rfl⟩ := ry
  obtain ⟨its, r, pl, hz⟩ := I.tuple hq
  obtain ⟨j, h1, h2, h3, h4, h5⟩ := atI_get he
  obtain ⟨w, ew, rw'⟩ := r.get h2
  have hl := r.length
  have hn := line63
  have fin : EP X pins σ Q w s := ⟨z, H, I, rw', q⟩
  exact subscriptTail_builtinR (x := w) pl.typeIs slot_tuple_getitem.lookup
    (getItem_tuple (j := j) (Q := fun r s' => r = w ∧ EP X pins σ Q r s') pl (by omega) (by omega) (by rw [List.size_toArray, ← hl]; exact h1) (by simpa using ew) ⟨rfl, fin⟩) hs
/-- list, tuple or str -/
def rIx (K : PySem.W.Frag) : R2 := fun x y H Q => rIxL K x y H Q ∨ rIxT K x y H Q ∨ rIxS x y H Q

/-! ### xs[i] = v, any sign -/
def rSetL : V → V → V → Hp → (Hp → Prop) → Prop := fun o i v H Q => ∃ p xs k j, o = .ref p ∧ i = .int k ∧ H p = some (.lst xs) ∧ ixN xs.length k = some j ∧ Q (upd H p (.lst (xs.set j v)))

/-! ### slices -/
theorem slice_bounds (lo hi : Option Int) (n : Nat) : (sliceBounds lo hi none n).1 = ((HT.sIx n 0 lo : Nat) : Int) ∧ (sliceBounds lo hi none n).2.1 = ((HT.sIx n n hi : Nat) : Int) ∧ (sliceBounds lo hi none n).2.2 = 1 := by
  refine ⟨?_, ?_, rfl⟩
  · cases lo with
    | none => simp [sliceBounds, HT.sIx]
    | some i =>
      simp only [sliceBounds, HT.sIx, Option.getD_none, show (1 : Int) > 0 by decide, if_true]
      by_cases h : i < 0
      · simp only [h, if_true] <;> omega
      · simp only [h, if_false] <;> omega
  · cases hi with
    | none => simp [sliceBounds, HT.sIx]
    | some i =>
      simp only [sliceBounds, HT.sIx, Option.getD_none, show (1 : Int) > 0 by decide, if_true]
      by_cases h : i < 0
      · simp only [h, if_true] <;> omega
      · simp only [h, if_false] <;> omega
theorem slicePick_cut (its : List Value) (lo hi : Option Int) : slicePick its.toArray lo hi none = ((its.drop (HT.sIx its.length 0 lo)).take (HT.sIx its.length its.length hi - HT.sIx its.length 0 lo)).toArray := by
  obtain ⟨h1, h2, h3⟩ := slice_bounds lo hi its.toArray.size
  unfold slicePick
  rw [h1, h2, h3]
  simp only [sliceRange_one, pick_run, List.size_toArray] <;> rfl
/-- xs[lo:hi] of a list: a new list -/
def rSlL (K : PySem.W.Frag) : V → Option Int → Option Int → Hp → VK → Prop := fun x lo hi H Q => ∃ a xs, x = .ref a ∧ SqL K H a xs ∧ ∀ p, H p = none → Q (.ref p) (upd H p (.lst (cutV xs lo hi)))
theorem sl_list : SlR X (rSlL X.K) := by
  intro pins s σ H x v vl vu lo hi sl Q I rx hs pl pu h
  obtain ⟨a, xs, rfl, hx, q⟩ := h
  cases rx
  obtain ⟨its, r, ht, hz⟩ := I.list hx
  have hlen := r.length
  refine ⟨"list", _, slot_list_getitem.lookup, ht.isList.typeIs, ?_⟩
  refine wpAny_getItem_list_slice ht.isList hs pl pu .none (by simp) ?_ (by rw [List.size_toArray] <;> omega)
  rw [slicePick_cut, ← hlen]
  refine ⟨.ref s.heap.objs.size, _, I.laid (t' := s.toks) (o := .lst (cutV xs lo hi)) (fun b ob q => Heap.get?_push_of_some _ q) (Nat.le_refl _) ?_, rfl, q _ (I.hok.fresh (Nat.le_refl _))⟩
  exact ⟨Nat.le_trans (cutV_length xs lo hi) hz, _, 0, (r.drop (HT.sIx xs.length 0 lo)).take (HT.sIx xs.length xs.length hi - HT.sIx xs.length 0 lo), Heap.get?_push_size _ rfl⟩

/-! ### in, not in: flat items -/
def flatV : V → Bool
  | .non => true
  | .bl _ => true
  | .int _ => true
  | .str _ => true
  | _ => false
/-- == of flat values -/
def eqV : V → V → Bool
  | .non, .non => true
  | .bl a, .bl b => a == b
  | .bl a, .int b => (if a then 1 else 0) == b
  | .int a, .bl b => a == (if b then 1 else 0)
  | .int a, .int b => a == b
  | .str a, .str b => a == b
  | _, _ => false
theorem eqAt_V {A : Around} {s : Shared} {y x : V} {u v : Value} (ry : RelV y u) (rx : RelV x v) (fy : flatV y = true) (fx : flatV x = true) : SeqAt.EqAt A s u v (eqV y x) := by
  cases y with
  | non =>
    cases ry
    cases x with
    | non => cases rx; exact SeqAt.EqAt.same _
    | bl b => cases rx; exact SeqAt.EqAt.none_bool b
    | int b => obtain ⟨t, rfl⟩ := rx; exact SeqAt.EqAt.none_int b t
    | str b => obtain ⟨t, rfl⟩ := rx; exact SeqAt.EqAt.none_str b t
    | _ => exact absurd (show false = true from fx) Bool.false_ne_true
  | bl a =>
    cases ry
    cases x with
    | non => cases rx; exact SeqAt.EqAt.bool_none a
    | bl b => cases rx; exact SeqAt.EqAt.bool_bool a b
    | int b => obtain ⟨t, rfl⟩ := rx; exact SeqAt.EqAt.bool_int a b t
    | str b => obtain ⟨t, rfl⟩ := rx; exact SeqAt.EqAt.bool_str a b t
    | _ => exact absurd (show false = true from fx) Bool.false_ne_true
  | int a =>
    obtain ⟨t', rfl⟩ := ry
    cases x with
    | non => cases rx; exact SeqAt.EqAt.int_none a t'
    | bl b => cases rx; exact SeqAt.EqAt.int_bool a t' b
    | int b => obtain ⟨t, rfl⟩ := rx; exact SeqAt.EqAt.int_int a t' b t
    | str b => obtain ⟨t, rfl⟩ := rx; exact SeqAt.EqAt.int_str a t' b t
    | _ => exact absurd (show false = true from fx) Bool.false_ne_true
  | str a =>
    obtain ⟨t', rfl⟩ := ry
    cases x with
    | non => cases rx; exact SeqAt.EqAt.str_none a t'
    | bl b => cases rx; exact SeqAt.EqAt.str_bool a t' b
    | int b => obtain ⟨t, rfl⟩ := rx; exact SeqAt.EqAt.str_int a t' b t
    | str b => obtain ⟨t, rfl⟩ := rx; exact SeqAt.EqAt.str_str a t' b t
    | _ => exact absurd (show false = true from fx) Bool.false_ne_true
  | _ => exact absurd (show false = true from fy) Bool.false_ne_true
/-- the items' answers, read off the values (a value's own answer does not lean on its token) -/
def eqU (x : V) (u : Value) : Bool := match u with
  | .none => eqV .non x
  | .bool b => eqV (.bl b) x
  | .int i _ => eqV (.int i) x
  | .str z _ => eqV (.str z) x
  | _ => false
theorem eqU_of {x y : V} {u : Value} (r : RelV y u) (f : flatV y = true) : eqU x u = eqV y x := by
  cases y with
  | non => cases r; rfl
  | bl b => cases r; rfl
  | int i => obtain ⟨t, rfl⟩ := r; rfl
  | str z => obtain ⟨t, rfl⟩ := r; rfl
  | _ => exact absurd (show false = true from f) Bool.false_ne_true
theorem any_eqU {x : V} : ∀ {xs : List V} {us : List Value}, Vals xs us → xs.all flatV = true → us.any (eqU x) = xs.any fun y => eqV y x
  | _, _, .nil, _ => rfl
  | y :: xs, u :: us, .cons r t, f => by
    rw [List.all_cons, Bool.and_eq_true] at f
    rw [List.any_cons, List.any_cons, eqU_of r f.1, any_eqU t f.2]
theorem mem_eqAt {A : Around} {s : Shared} {x : V} {v : Value} (rx : RelV x v) (fx : flatV x = true) : ∀ {xs : List V} {us : List Value}, Vals xs us → xs.all flatV = true → ∀ u ∈ us, SeqAt.EqAt A s u v (eqU x u)
  | _, _, .nil, _ => fun u hu => by cases hu
  | y :: xs, u :: us, .cons r t, f => fun u' hu => by
    rw [List.all_cons, Bool.and_eq_true] at f
    rcases List.mem_cons.mp hu with rfl | hu
    · rw [eqU_of r f.1]; exact eqAt_V r rx f.1 fx
    · exact mem_eqAt rx fx t f.2 u' hu
def inV (x : V) (xs : List V) : Bool := xs.any fun y => eqV y x
/-- x in a list or tuple of flat items -/
def rIn (K : PySem.W.Frag) (neg : Bool) : R2 := fun x y H Q => ∃ p xs, y = .ref p ∧ (SqL K H p xs ∨ SqT K H p xs) ∧ flatV x = true ∧ xs.all flatV = true ∧ Q (.bl (if neg then !inV x xs else inV x xs)) H
theorem op_in_seq : OpR X (compareOp .In) (rIn X.K false) := by
  intro pins s σ H x y v u Q I rx ry h
  obtain ⟨p, xs, rfl, hq, fx, fs, q⟩ := h
  cases ry
  rcases hq with hq | hq
  · obtain ⟨its, r, pl, hz⟩ := I.list hq
    refine SeqAt.in_listAt (eqU x) pl.isList (fun w hw => mem_eqAt rx fx r fs w (by simpa using hw)) ⟨.bl _, H, I, rfl, ?_⟩
    rw [show its.toArray.any (eqU x) = its.any (eqU x) by simp, any_eqU r fs]
    exact q
  · obtain ⟨its, r, pl, hz⟩ := I.tuple hq
    refine SeqAt.in_tupleAt (eqU x) pl (fun w hw => mem_eqAt rx fx r fs w (by simpa using hw)) ⟨.bl _, H, I, rfl, ?_⟩
    rw [show its.toArray.any (eqU x) = its.any (eqU x) by simp, any_eqU r fs]
    exact q
theorem op_notIn_seq : OpR X (compareOp .NotIn) (rIn X.K true) := by
  intro pins s σ H x y v u Q I rx ry h
  obtain ⟨p, xs, rfl, hq, fx, fs, q⟩ := h
  cases ry
  rcases hq with hq | hq
  · obtain ⟨its, r, pl, hz⟩ := I.list hq
    refine SeqAt.notIn_listAt (eqU x) pl.isList (fun w hw => mem_eqAt rx fx r fs w (by simpa using hw)) ⟨.bl _, H, I, rfl, ?_⟩
    rw [show its.toArray.any (eqU x) = its.any (eqU x) by simp, any_eqU r fs]
    exact q
  · obtain ⟨its, r, pl, hz⟩ := I.tuple hq
    refine SeqAt.notIn_tupleAt (eqU x) pl (fun w hw => mem_eqAt rx fx r fs w (by simpa using hw)) ⟨.bl _, H, I, rfl, ?_⟩
    rw [show its.toArray.any (eqU x) = its.any (eqU x) by simp, any_eqU r fs]
    exact q

/-! ### len, list(x), tuple(x) of any list or tuple that is read -/
theorem call_len_seq : CallR X (.builtin "len") (fun xs H Q => ∃ p ys, xs = [.ref p] ∧ (SqL X.K H p ys ∨ SqT X.K H p ys) ∧ Q (.int ys.length) H) := by
  intro pins s σ H xs us Q I r h
  obtain ⟨p, ys, rfl, hq, q⟩ := h
  obtain ⟨u, rfl, rx⟩ := vals1 r
  cases rx
  have hn := line63
  rcases hq with hq | hq
  · obtain ⟨its, r', pl, hz⟩ := I.list hq
    have hlen := r'.length
    exact Calls.call_len_list pl.isList (by simp only [List.size_toArray] <;> omega) ⟨.int ys.length, H, I.tok _, ⟨s.toks + 1, by rw [List.size_toArray, hlen]⟩, q⟩
  · obtain ⟨its, r', pl, hz⟩ := I.tuple hq
    have hlen := r'.length
    exact len_tuple pl (by simp only [List.size_toArray] <;> omega) ⟨.int ys.length, H, I.tok _, ⟨s.toks + 1, by rw [List.size_toArray, hlen]⟩, q⟩
theorem call_list_of : CallR X (.type "list") (fun xs H Q => ∃ p ys, xs = [.ref p] ∧ (SqL X.K H p ys ∨ SqT X.K H p ys) ∧ ∀ l, H l = none → Q (.ref l) (upd H l (.lst ys))) := by
  intro pins s σ H xs us Q I r h
  obtain ⟨p, ys, rfl, hq, q⟩ := h
  obtain ⟨u, rfl, rx⟩ := vals1 r
  cases rx
  have fin : ∀ (its : List Value), Vals ys its → ys.length ≤ sizeLine → ∀ (h' : Heap) (c' : Nat), (∀ b o', s.heap.get? b = some o' → h'.get? b = some o') →
      h'.get? s.heap.objs.size = some { cls := .type "list", dict := none, data := .seq its.toArray c', slots := #[] } → EP X pins σ Q (.ref s.heap.objs.size) { s with heap := h' } := fun its r' hz h' c' kp e =>
    ⟨.ref s.heap.objs.size, _, I.laid (t' := s.toks) kp (Nat.le_refl _) (show ObjOk X.prog X.w _ h' _ (.lst ys) from ⟨hz, its, c', r', e⟩), rfl, q _ (I.hok.fresh (Nat.le_refl _))⟩
  rcases hq with hq | hq
  · obtain ⟨its, r', pl, hz⟩ := I.list hq
    have hlen := r'.length
    obtain ⟨o, ho, hc, n, hd⟩ := pl.isList
    exact call_list_seq p (.inl rfl) ho hc hd (fun h' c' kp e => fin its r' hz h' c' kp e) (by simp only [List.size_toArray] <;> omega)
  · obtain ⟨its, r', pl, hz⟩ := I.tuple hq
    have hlen := r'.length
    obtain ⟨o, ho, hc, n, hd⟩ := pl
    exact call_list_seq p (.inr rfl) ho hc hd (fun h' c' kp e => fin its r' hz h' c' kp e) (by simp only [List.size_toArray] <;> omega)

/-! ### the call of a builtin's method: o.m(..) -/
/-- the value is of that builtin type -/
def tyV (K : PySem.W.Frag) (T : String) (x : V) (H : Hp) : Prop := match x with
  | .str _ => T = "str"
  | .int _ => T = "int"
  | .ref p => (T = "list" ∧ ∃ xs, SqL K H p xs) ∨ (T = "tuple" ∧ ∃ o, K.lookup p = some o ∧ o.cls = .type "tuple" ∧ o.dict = none) ∨
      (T = "dict" ∧ ((∃ kvs, H p = some (.dK kvs)) ∨ ∃ kvs, H p = some (.dT kvs))) ∨ (T = "set" ∧ ∃ S n, H p = some (.set S n))
  | _ => False
theorem tyV_is {pins : List (Addr × Obj)} {σ : St} {H : Hp} {s : Shared} {T : String} {x : V} {v : Value} (I : Inv X pins σ H s) (r : RelV x v) (ty : tyV X.K T x H) :
    s.TypeIs v T ∧ ∀ a, v = .ref a → ∃ ob, s.heap.get? a = some ob ∧ ob.dict = none := by
  cases x with
  | str z =>
    obtain ⟨t, rfl⟩ := r
    cases (show T = "str" from ty)
    exact ⟨typeIs_str s z t, fun _ e => nomatch e⟩
  | int i =>
    obtain ⟨t, rfl⟩ := r
    cases (show T = "int" from ty)
    exact ⟨typeIs_int s i t, fun _ e => nomatch e⟩
  | ref p =>
    cases r
    rcases ty with ⟨rfl, xs, hq⟩ | ⟨rfl, o, hk, hc, hd⟩ | ⟨rfl, hk⟩ | ⟨rfl, S, n, hk⟩
    · obtain ⟨its, _, pl, _⟩ := I.list hq
      refine ⟨pl.isList.typeIs, fun a e => ?_⟩
      cases e
      obtain ⟨o, n, e, c, hd, _⟩ := pl
      exact ⟨o, e, hd⟩
    · refine ⟨⟨o, I.kIn p o hk, hc⟩, fun a e => ?_⟩
      cases e
      exact ⟨o, I.kIn _ o hk, hd⟩
    · have z : ∃ o, s.heap.get? p = some o ∧ o.ExactDict := by
        rcases hk with ⟨kvs, hk⟩ | ⟨kvs, hk⟩
        · obtain ⟨_, _, _, _, o, _, _, e, ex, _⟩ := I.hok p _ hk
          exact ⟨o, e, ex⟩
        · obtain ⟨_, _, _, _, o, _, _, e, ex, _⟩ := I.hok p _ hk
          exact ⟨o, e, ex⟩
      obtain ⟨o, e, ex⟩ := z
      refine ⟨⟨o, e, ex.1⟩, fun a e2 => ?_⟩
      cases e2
      exact ⟨o, e, ex.2.1⟩
    · obtain ⟨o, _, _, _, e, ex, _⟩ := I.hok p _ hk
      refine ⟨⟨o, e, ex.1⟩, fun a e2 => ?_⟩
      cases e2
      exact ⟨o, e, ex.2.1⟩
  | _ => exact False.elim ty
def tBM0 (K : PySem.W.Frag) (T : String) (r : V → List V → Hp → VK → Prop) (to : TE) : TE := fun σ H Q => to σ H fun x H1 => tyV K T x H1 ∧ r x [] H1 Q
def tBM (K : PySem.W.Frag) (T : String) (r : V → List V → Hp → VK → Prop) (to : TE) (t : TA) : TE := fun σ H Q => to σ H fun x H1 => tyV K T x H1 ∧ t σ H1 fun xs H2 => r x xs H2 Q
variable {o e : Expr} {es : List Expr} {to : TE} {t : TA} {name : Str} {apos cpos : Pos} {T id : String} {r : V → List V → Hp → VK → Prop}
theorem pe_bm (pa : PlainAttrs T) (slot : Slot T name id) (hty : typeOf (.builtin id) = pure (.type "method_descriptor")) (hm : MtR X id r) (ho : PE X o to) (ha : PA X (e :: es) t)
    (hbase : attributeBase o name X.env (eval o X.env) = eval o X.env := by rfl)
    (hfew : ((backTo cpos (starEach (e :: es) X.env)).all (fun x => !x.1) && (backToKw cpos (keywordEach [] X.env)).all (fun x => x.1.isSome)
      && decide ((e :: es).length + ([] : List Keyword).length + (if ([] : List Keyword).isEmpty then 0 else 1) < 30)) = true := by rfl)
    (hline : (apos.endLine == cpos.line) = true := by rfl) (hs : starEach (e :: es) X.env = (false, eval e X.env) :: starEach es X.env := by rfl) (hplain : (backTo cpos (starEach es X.env)).any (·.1) = false := by rfl) :
    PE X (.Call (.Attribute o name apos) (e :: es) [] cpos) (tBM X.K T r to t) := by
  intro pins s σ H Q I h
  refine wpAny_Call_method_late hbase hfew hline rfl (thn (ho pins s σ H _ I h) fun v s1 ⟨x, H1, I1, r1, ty, q1⟩ => ?_)
  obtain ⟨h1, h2⟩ := tyV_is I1 r1 ty
  refine ⟨T, id, pa, slot, hty, h1, h2, ?_⟩
  have hA := ha cpos pins s1 σ H1 _ I1 q1
  rw [hs] at hA ⊢
  refine Calls.callWith_builtin (by show (false || (backTo cpos (starEach es X.env)).any (·.1)) = false; rw [hplain] <;> rfl) (Calls.evalArgs_plain ?_)
  exact thn hA fun us s2 ⟨vs, H2, I2, r2, q2⟩ => hm pins s2 σ H2 x vs v us Q I2 r1 r2 q2
/- xs.append(e), list.index on a module's tuple .. are MtR facts of 06m -/
end
end L2

namespace L2
open PySem PySem.Spec PyProof.Rows

def MtM (X : Cx) (id : String) (r : V → List V → Hp → VK → Prop) : Prop :=
  ∀ (pins : List (Addr × Obj)) (s : Shared) (σ : St) (H : Hp) (x : V) (xs : List V) (v : Value) (us : List Value) (Q : VK), Inv X pins σ H s → RelV x v → Vals xs us → r x xs H Q →
    wpAny (model X.prog X.w) X.A (call (.builtin id) (v :: us)) (EP X pins σ Q) X.xe s

/-! ### lists of values -/
theorem Vals.one : ∀ {x : V} {us : List Value}, Vals [x] us → ∃ u, us = [u] ∧ RelV x u
  | _, _, .cons r .nil => ⟨_, rfl, r⟩

section
variable {X : Cx} {pins : List (Addr × Obj)} {σ : St} {H : Hp} {s : Shared} {l b : Addr} {xs ys zs : List V}

/-! ### the two steps: a tracked list is rewritten, a new list is laid -/
theorem Inv.lset {its its' : List Value} {n : Nat} {f : Array Value → Array Value} {t' : Nat} (I : Inv X pins σ H s) (hH : H l = some (.lst xs))
    (e : s.heap.get? l = some { cls := .type "list", data := .seq its.toArray n }) (hf : f its.toArray = its'.toArray) (hv : Vals ys its') (hz : ys.length ≤ sizeLine) :
    Inv X pins σ (upd H l (.lst ys)) { s with heap := s.heap.update l (Obj.mapSeq f), toks := t' } := by
  have q := PySem.IsL.update e f
  rw [hf] at q
  refine I.write (x := l) (e := l) (by rw [hH]; exact trivial) (.inl rfl) (fun b' u hb hu => (Heap.get?_update_other s.heap (Obj.mapSeq f) (Ne.symm hb)).trans hu) ⟨_, q⟩ ?_
  exact ⟨hz, its', _, hv, q⟩
theorem Inv.lnew {its : List Value} {t' : Nat} (I : Inv X pins σ H s) (hv : Vals ys its) (hz : ys.length ≤ sizeLine) :
    Inv X pins σ (upd H s.heap.objs.size (.lst ys)) { s with heap := s.heap.push { cls := .type "list", data := .seq its.toArray }, toks := t' } :=
  I.laid (fun _ _ q => Heap.get?_push_of_some _ q) (Nat.le_refl _) ⟨hz, its, 0, hv, Heap.get?_push_size _ rfl⟩
theorem Inv.fresh (I : Inv X pins σ H s) : H s.heap.objs.size = none := I.hok.fresh (Nat.le_refl _)
theorem Inv.lstM (I : Inv X pins σ H s) (hH : H l = some (.lst xs)) : xs.length ≤ sizeLine ∧ ∃ (its : List Value) (n : Nat), Vals xs its ∧ xs.length = its.length ∧ s.heap.get? l = some { cls := .type "list", data := .seq its.toArray n } := by
  obtain ⟨z, its, n, r, e⟩ := I.hok l _ hH
  exact ⟨z, its, n, r, r.length, e⟩

end

section
variable {X : Cx}

/-! ### methods -/
def rAppend : V → List V → Hp → VK → Prop := fun x vs H Q => ∃ l xs y, x = .ref l ∧ vs = [y] ∧ H l = some (.lst xs) ∧ xs.length < sizeLine ∧ Q .non (upd H l (.lst (xs ++ [y])))
theorem mt_append : MtM X "list.append" rAppend := by
  intro pins s σ H x vs v us Q I rx rv h
  obtain ⟨l, xs, y, rfl, rfl, hH, hz, q⟩ := h
  cases rx
  obtain ⟨u, rfl, ru⟩ := rv.one
  obtain ⟨z, its, n, r, hl, e⟩ := I.lstM hH
  refine call_meets F.slot_list_append ⟨_, e, rfl⟩ F.entry_list_append (F.args_list_append_2 _ _) (PySem.list_append l its.toArray n u (by rw [List.size_toArray]; omega)) ⟨e, ?_⟩
  refine ⟨.non, _, I.lset (its' := its ++ [u]) hH e (by simp) (r.append (.cons ru .nil)) ?_, rfl, q⟩
  rw [List.length_append, List.length_singleton]
  omega

def rExtend : V → List V → Hp → VK → Prop := fun x vs H Q => ∃ l b xs zs, x = .ref l ∧ vs = [.ref b] ∧ H l = some (.lst xs) ∧ H b = some (.lst zs) ∧ xs.length + zs.length ≤ sizeLine ∧ Q .non (upd H l (.lst (xs ++ zs)))

def rPop : V → List V → Hp → VK → Prop := fun x vs H Q => ∃ l xs y, x = .ref l ∧ vs = [] ∧ H l = some (.lst xs) ∧ xs[xs.length - 1]? = some y ∧ Q y (upd H l (.lst xs.dropLast))

def rPopAt : V → List V → Hp → VK → Prop := fun x vs H Q => ∃ l xs i k y, x = .ref l ∧ vs = [.int i] ∧ H l = some (.lst xs) ∧ -(2 ^ 63) ≤ i ∧ i < 2 ^ 63 ∧ seqIndex? i xs.length = some k ∧ xs[k]? = some y ∧ Q y (upd H l (.lst (xs.eraseIdx k)))

def rReverse : V → List V → Hp → VK → Prop := fun x vs H Q => ∃ l xs, x = .ref l ∧ vs = [] ∧ H l = some (.lst xs) ∧ Q .non (upd H l (.lst xs.reverse))

def rClear : V → List V → Hp → VK → Prop := fun x vs H Q => ∃ l xs, x = .ref l ∧ vs = [] ∧ H l = some (.lst xs) ∧ Q .non (upd H l (.lst []))

/-! ### list + list, list += list, list * int -/
def rCat : R2 := fun x y H Q => ∃ l b xs zs, x = .ref l ∧ y = .ref b ∧ H l = some (.lst xs) ∧ H b = some (.lst zs) ∧ xs.length + zs.length ≤ sizeLine ∧ ∀ p, H p = none → Q (.ref p) (upd H p (.lst (xs ++ zs)))
theorem op_cat : OpR X (binaryOp .Add) rCat := by
  intro pins s σ H x y v u Q I rx ry h
  obtain ⟨l, b, xs, zs, rfl, rfl, hH, hB, hz, q⟩ := h
  cases rx
  cases ry
  obtain ⟨z, its, n, r, hl, e⟩ := I.lstM hH
  obtain ⟨z2, its2, n2, r2, hl2, e2⟩ := I.lstM hB
  refine PySem.P.add_list e e2 ?_ (by rw [List.size_toArray, List.size_toArray]; omega)
  have ea : its.toArray ++ its2.toArray = (its ++ its2).toArray := by simp
  rw [ea]
  exact ⟨.ref _, _, I.lnew (t' := s.toks) (r.append r2) (by rw [List.length_append]; omega), rfl, q _ I.fresh⟩
/-- a list times an int (a negative one is nothing) -/
def rRep : R2 := fun x y H Q => ∃ l k xs, x = .ref l ∧ y = .int k ∧ H l = some (.lst xs) ∧ -(2 ^ 63) ≤ k ∧ k < 2 ^ 63 ∧ xs.length * k.toNat ≤ sizeLine ∧
  ∀ p, H p = none → Q (.ref p) (upd H p (.lst (List.replicate k.toNat xs).flatten))

/-! ### del xs[i] -/
end

/-! ### xs[a:b] = ys -/
section
variable {prog : Program} {w : World} {A : Around} {E : Value → Shared → Prop} {s : Shared}
end

section
variable {X : Cx}
end
end L2

namespace Att
open PySem PySem.W PySem.Calls PyProof.Rows

/-! ### the script -/
theorem ints_of_wellAll {P : Params} {h : Heap} : ∀ (ns : List Int) (vs : List Value), WellAll P h vs (ns.map WData.int) → IntsAre vs ns := by
  intro ns
  induction ns with
  | nil =>
    intro vs w
    rw [List.map_nil] at w
    cases w
    exact .nil
  | cons n ns ih =>
    intro vs w
    rw [List.map_cons] at w
    cases w with
    | cons a b =>
      cases a
      exact .cons _ _ (ih _ b)

theorem script_of {l : OpenLaw} {n : Nat} (hn : l.most = some n) {P : Params} {h : Heap} {args : List WData} {vals : List Value}
    (hpre : l.row.toRowW.claim.pre args = true) (hwl : WellAll P h vals args) :
    ∃ a vs ns, vals = [Value.ref a] ∧ args = [WData.list (ns.map WData.int)] ∧ h.get? a = some { cls := .type "list", data := .seq vs.toArray } ∧ IntsAre vs ns ∧ ns.length ≤ n := by
  have hsh : WShape.hasAll [] args [.list .int] = true := (pre_splitW hpre).1
  have hc : l.pre.holds [] { args := args } = true := (pre_splitW hpre).2
  obtain ⟨d, r, rfl, h1, h2⟩ := hasAllW_cons hsh
  obtain rfl := hasAllW_nil h2
  obtain ⟨xs, rfl, h3⟩ := hasW_list h1
  obtain ⟨ns, rfl⟩ := items_int h3
  have hlen : ns.length ≤ n := by
    unfold OpenLaw.pre at hc
    have h4 : (WTm.not (.lt (.lit (.int (n : Int))) (.len (.arg 0)))).holds [] { args := [.list (ns.map .int)] } = true := by
      have h4 := (holds_andW hc).1
      rw [hn] at h4
      exact h4
    have h5 := condW_of h4 (w_not (w_lt w_lit (w_len_list (w_arg rfl))))
    rw [List.length_map] at h5
    refine Nat.le_of_not_lt fun q => ?_
    have q' : (n : Int) < ((ns.length : Nat) : Int) := by omega
    first
      | (rw [decide_eq_true q'] at h5; exact absurd h5 (by decide))
      | (simp at h5; omega)
  cases hwl with
  | cons w1 w2 =>
    cases w2
    cases w1 with
    | list ho hall => exact ⟨_, _, ns, rfl, rfl, ho, ints_of_wellAll ns _ hall, hlen⟩

theorem post_true (l : OpenLaw) (args : List WData) : l.row.toRowW.claim.post args (.bool true) args = true :=
  postW_of (r := l.row.toRowW) (X := (true == true))
    (show WShape.has [] (.bool true) .bool = true by first | rfl | decide | simp [WShape.has, WShape.arms, WShape.armsAll])
    (show (WTm.eq .res (.lit (.bool true))).value [] { args := args, res := some (.bool true), after := args } = some (.bool (true == true)) from w_eq_bool (w_res rfl) w_lit) rfl

/-! ### the attachment: holds_open's last premise (the goal 'hc' behind k_head) from a wpAny of the law's body -/

/-- the same from a codeAny of the CALL (for a layer whose function contracts speak of calls) -/
theorem attach_call {l : OpenLaw} {n : Nat} {q : Program} {loose : List Str} {XP : (Str → Option Value) → Heap → Prop} {YP : World → Heap → Prop} {d : DefRec}
    (hn : l.most = some n) (hdf : d.params.defaults = [])
    (call : ∀ (w : World) (s₀ s₁ : Shared) (mg mb : Str → Option Value) (fa : Addr) (o : Obj) (pm cd doc : Value) (a : Addr) (vs : List Value) (ns : List Int),
      Ground q loose [] XP w s₀ mg mb s₁.heap → YP w s₁.heap →
      s₁.heap.get? fa = some o → o.data = .func (docDef d.name d.params d.body d.scope pm cd doc) → s₁.heap.CodeRec cd d.name → mg d.name = some (.ref fa) →
      s₁.heap.get? a = some { cls := .type "list", data := .seq vs.toArray } → IntsAre vs ns → ns.length ≤ n → s₁.gens = #[] →
      codeAny (model l.prog w) callerA (.call (.ref fa) ⟨[.ref a], []⟩) (fun r s' => r = .ok (.ret (.bool true)) ∧ OldK s₁.heap s'.heap ∧ s'.os = s₁.os ∧ AllBare s'.gens) s₁) :
    WalkO q loose XP YP l.row.toRowW d [] (fun f vs => PySem.call f vs) := by
  intro w s₀ s₁ mg mb G Y fa o pm cd doc dV kV ho hd hcd hD hmg hg args vals as hpre hlay hrd hwl hlo
  obtain rfl : dV = .none := Dflts.none hD hdf
  obtain rfl : kV = .none := Dflts.noKw hD
  obtain ⟨a, vs, ns, rfl, rfl, hobj, hints, hlen⟩ := script_of hn hpre hwl
  refine enter_call (codeAny_mono (call w s₀ s₁ mg mb fa o pm cd doc a vs ns G Y ho (fd_plain hd) hcd hmg hobj hints hlen hg) fun r s' hq => ?_)
  obtain ⟨rfl, h2, h3, h4⟩ := hq
  exact ⟨.inl ⟨.bool true, .bool true, [], rfl, fun _ => rfl, .bool true, post_true l _, fun _ => ⟨List.Pairwise.nil, fun _ hm => (nomatch hm)⟩⟩, h2, h3, h4⟩


/-! ### rules over ANY heap (no ledger) from facts about the written part K: the library's own take a ledger (News) for what they write -/
section
variable {prog : Program} {w : World} {A : Around} {E : Value → Shared → Prop} {s : Shared} {K : Frag}





/-! the whole heap as the ledger: makes every rule that writes through a ledger a rule over any heap -/
def noObjs (h : Heap) : Heap := { h with objs := #[] }
def ledger (h : Heap) (L d : Addr) : List (Addr × Obj) := (List.range h.objs.size).filterMap fun a => if a = L ∨ a = d then none else (h.get? a).map fun o => (a, o)

end
end Att

namespace L2
open PySem PySem.Spec PyProof.Rows

theorem vals_ints : ∀ {vs : List Value} {ns : List Int}, IntsAre vs ns → Vals (ns.map V.int) vs
  | _, _, .nil => .nil
  | _, _, .cons n t h => .cons ⟨t, rfl⟩ (vals_ints h)

/-- nothing is tracked but the script, known to the object (or it is an object of the module) -/
def Only (H : Hp) : Prop := ∀ b, H b = none ∨ ∃ o xs, H b = some (.frz o (.lst xs))

/-- THE HEAD: the law's promise, at the heap behind the top. F, the promise of the law's def, may use that base is part of the heap (so K.In base, base.Ns mainGlobals mg stand in Mod) -/
theorem law_call {P : Program} {w : World} {K : PySem.W.Frag} {mg mb : Str → Option Value} {CX : CXT} {k : Nat} {fa a : Addr} {fd : FuncData} {x : Str} {sp : Sp} {s₁ : Shared} {vs : List Value} {ns : List Int}
    (KX : K.In s₁.heap) (hns : s₁.heap.Ns mainGlobals mg) (hb : s₁.heap.Ns builtinsNs mb) (hbb : ∀ x : Str, x ≠ "__name__" → mb x = bootBuiltins x) (hlim : s₁.heap.NoLimit) (hg : s₁.gens = #[])
    (ha : s₁.heap.get? a = some { cls := .type "list", data := .seq vs.toArray }) (hi : IntsAre vs ns) (hl : ns.length ≤ sizeLine) (hr : Room k callerA)
    (F : ∀ base : Heap, K.In base → base.Ns mainGlobals mg → FnOk P w K mg base CX k fa fd [x] sp) (hbind : ∀ (s : Shared) (u : Value), BindsTo s fd ⟨[u], []⟩ [(x, u)])
    (hsp : ∀ H : Hp, Only H → SqL K H a (ns.map V.int) → sp [.ref a] H (fun v _ => v = .bl true) fun _ _ _ => False)
    (hCX : ∀ H e s', CX [] H s₁ (fun _ _ _ => False) e s' → False) :
    codeAny (model P w) callerA (.call (.ref fa) ⟨[.ref a], []⟩) (fun r s' => r = .ok (.ret (.bool true)) ∧ OldK s₁.heap s'.heap ∧ s'.os = s₁.os ∧ AllBare s'.gens) s₁ := by
  have rv := vals_ints hi
  have lenV := hi.length
  -- from an abstract heap in which nothing but the script may be tracked
  have core : ∀ H : Hp, Only H → SqL K H a (ns.map V.int) → HOk P w H s₁.heap → (∀ b, H b ≠ none → b = a) → (H a ≠ none → K.lookup a = none) →
      codeAny (model P w) callerA (.call (.ref fa) ⟨[.ref a], []⟩) (fun r s' => r = .ok (.ret (.bool true)) ∧ OldK s₁.heap s'.heap ∧ s'.os = s₁.os ∧ AllBare s'.gens) s₁ := by
    intro H hO hS hok hA hK
    have base_of : ∀ {b : Addr} {o : Obj}, s₁.heap.get? b = some o → H b = none → (hidT s₁.heap H).get? b = some o := fun e n => hidT_get e n
    have noA : ∀ {b : Addr} {o : Obj} {es : Array DictEntry} {ep : Nat}, s₁.heap.get? b = some o → o.data = .dict es ep → H b = none := fun {b o es ep} e d => by
      cases q : H b with
      | none => rfl
      | some u =>
        have e' : b = a := hA b (by rw [q]; simp)
        subst e'
        rw [ha] at e; cases e
        have d' : Data.seq vs.toArray _ = Data.dict es ep := d
        cases d'
    have nsK : ∀ {b : Addr} {m : Str → Option Value}, s₁.heap.Ns b m → (hidT s₁.heap H).Ns b m := fun {b m} ⟨o, es, ep, e, d, r⟩ => ⟨o, es, ep, base_of e (noA e d), d, r⟩
    have hKb : K.In (hidT s₁.heap H) := fun b o e => base_of (KX b o e) (by
      cases q : H b with
      | none => rfl
      | some u =>
        have e' : b = a := hA b (by rw [q]; simp)
        subst e'
        rw [hK (by rw [q]; simp)] at e; cases e)
    have hM : Mod K mg (hidT s₁.heap H) := ⟨hKb, nsK hns, ⟨mb, nsK hb, hbb⟩, let ⟨mc, h1, h2⟩ := hlim; ⟨mc, nsK h1, h2⟩⟩
    have e0 : Env0 P w K mg (hidT s₁.heap H) callerA [] s₁ H := ⟨rfl, hM, fun b o e => of_hidT e, Nat.le_of_eq (hidT_size _ _), trivial, fun b hb => absurd (show b ∈ ([] : List Addr) from hb) (by simp), hok, .of_eq hg⟩
    refine codeAny_mono ((F _ hKb (nsK hns)).run callerA [] s₁ H ⟨[.ref a], []⟩ [.ref a] [.ref a] _ _ hr e0 (hbind s₁ (.ref a)) (.cons rfl .nil) (hsp H hO hS)) fun r s' h => ?_
    cases r with
    | error e => exact (hCX H e s' h).elim
    | ok fl =>
      cases fl with
      | next => exact False.elim h
      | brk => exact False.elim h
      | cont => exact False.elim h
      | ret u =>
        obtain ⟨v, H', os, bare, un, hok', r', q⟩ := h
        have q' : v = .bl true := q
        subst q'
        obtain rfl : u = Value.bool true := r'
        refine ⟨rfl, OldK.of_keep fun b o e => ?_, os, bare⟩
        cases q : H b with
        | none => exact un.keep b o e q (by intro z; exact absurd (show b ∈ ([] : List Addr) from z) (by simp)) (by simp)
        | some u =>
          rcases hO b with z | ⟨ob, xs, z⟩
          · rw [q] at z; cases z
          · have z2 := un.frzs b ob _ z
            obtain ⟨e1, _⟩ := hok b _ z
            obtain ⟨e2, _⟩ := hok' b _ z2
            rw [e] at e1; cases e1
            exact e2
  cases hk : K.lookup a with
  | some o =>
    -- the script is one of the module's own objects
    have e := KX a o hk
    rw [ha] at e
    cases e
    refine core (fun _ => none) (fun _ => .inl rfl) (.inr ⟨_, vs.toArray, _, hk, rfl, rfl, rfl, by rw [List.size_toArray, lenV]; exact hl, by simpa using rv⟩) (fun b u z => by have z' : (none : Option HO) = some u := z; cases z') (fun b z => absurd rfl z) fun z => absurd rfl z
  | none =>
    refine core (fun b => if b = a then some (.frz { cls := .type "list", data := .seq vs.toArray } (.lst (ns.map V.int))) else none) (fun b => ?_) (.inl (.inr ⟨{ cls := .type "list", data := .seq vs.toArray }, if_pos rfl⟩)) (fun b u z => ?_) (fun b z => ?_) fun _ => hk
    · by_cases hb : b = a
      · exact .inr ⟨_, _, if_pos hb⟩
      · exact .inl (if_neg hb)
    · by_cases hb : b = a
      · have z' := (if_pos hb).symm.trans z
        cases z'
        subst hb
        exact ⟨ha, by rw [List.length_map]; exact hl, vs, _, rv, ha⟩
      · have z' := (if_neg hb).symm.trans z
        cases z'
    · by_cases hb : b = a
      · exact hb
      · exact absurd (if_neg hb) z
end L2

namespace L2
open PySem PySem.Spec PyProof.Rows

abbrev KOf {K : PySem.W.Frag} {h : Heap} (_ : K.In h) : PySem.W.Frag := K

/-- the goal that k_head leaves (case hc), from the law's promise. F gives the function object fd (K's own) once, then the promise over every base -/
theorem walk_of {l : PySem.W.OpenLaw} {n k : Nat} {q : Program} {loose : List Str} {XP : (Str → Option Value) → Heap → Prop} {YP : World → Heap → Prop} {d : DefRec} {K : Params → PySem.W.Frag} {CX : World → CXT} {sp : World → Sp} {x : Str}
    (hn : l.most = some n) (hn2 : n ≤ sizeLine) (hdf : d.params.defaults = []) (hr : Room k callerA)
    (hY : ∀ (w : World) (h : Heap), YP w h → (K w.params).In h)
    (F : ∀ (w : World) (mg : Str → Option Value) (fa : Addr) (h : Heap), (K w.params).In h → h.Ns mainGlobals mg → mg d.name = some (.ref fa) →
      ∃ fd : FuncData, (∀ (s : Shared) (u : Value), BindsTo s fd ⟨[u], []⟩ [(x, u)]) ∧
        ∀ base : Heap, (K w.params).In base → base.Ns mainGlobals mg → FnOk l.prog w (K w.params) mg base (CX w) k fa fd [x] (sp w))
    (hsp : ∀ (w : World) (H : Hp) (a : Addr) (ns : List Int), ns.length ≤ n → Only H → SqL (K w.params) H a (ns.map V.int) → sp w [.ref a] H (fun v _ => v = .bl true) fun _ _ _ => False)
    (hCX : ∀ (w : World) (H : Hp) (s : Shared) (e : Value) (s' : Shared), CX w [] H s (fun _ _ _ => False) e s' → False) :
    PySem.W.WalkO q loose XP YP l.row.toRowW d [] (fun f vs => PySem.call f vs) := by
  refine Att.attach_call hn hdf fun w s₀ s₁ mg mb fa o pm cd doc a vs ns G Y ho hd hcd hmg hobj hints hlen hg => ?_
  have KX := hY w _ Y
  obtain ⟨fd, hb, hF⟩ := F w mg fa _ KX G.T.g hmg
  exact law_call KX G.T.g G.T.b G.T.builtins G.T.nolimit hg hobj hints (Nat.le_trans hlen hn2) hr hF hb (fun H hO hS => hsp w H a ns hlen hO hS) fun H e s' => hCX w H s₁ e s'
end L2

/- THE LAST THEOREM (shape; LID, My.* are yours):
   My.Adr: a structure of the addresses that your layer names (classes, functions); My.Txt K t: a structure (Prop) of the equations over K;
   My.txt_mk : {K} {implicit addresses ..} (e1 : nsIn K mainGlobals "law" = some (some (.ref f))) (e2 : K.lookup f = some ⟨oc, od, .func (fnOf "law" "law" params body scope dV kV doc pm an cdv ct), sl⟩) (e3 : codeIn K cdv "law" = true) .. : ∃ t, My.Txt K t

set_option maxRecDepth 100000 in
set_option maxHeartbeats 0 in
theorem PySem.Challenge.cw_LID_holds : PySem.Challenge.rw_LID.Holds := by
  w_on; o_law; k_head; (case hw => w_witness2)
  k_fill
  refine L2.walk_of (l := PySem.Challenge.rw_LID) (n := 63) (k := 40) (x := "script") (CX := fun w => ..) (sp := fun _ => My.sp_law) rfl (by decide) rfl ⟨rfl, by decide, by decide⟩ (fun w h Y => PySem.W.kIn_of Y) ?F ?S ?C
  case F =>
    intro w mg fa h KX G hmg
    have T : ∃ t, My.Txt (L2.KOf KX) t := by
      dsimp only [L2.KOf]                          -- K must stand as «<heap const> w.params» for k_is
      refine' My.txt_mk ?e1 ?e2 ?e3 ..
      (case e1 => PySem.W.k_is)                    -- in the order: a name -> its address -> its object -> its parts
      (case e2 => PySem.W.k_is)
      ..
    obtain ⟨t, T⟩ := T
    have e0 := hmg.symm.trans (PySem.W.mg_of KX G T.law)
    cases e0                                       -- fa is the law's own address
    exact ⟨_, fun s u => .of_eq rfl, fun base kb nb => My.law_fn T kb nb⟩     -- if «.of_eq rfl» comes too early: refine' ⟨_, ?b, fun base kb nb => My.law_fn T kb nb⟩; exact fun s u => .of_eq rfl
  case S => exact fun w H a ns hl hO hS => ..
  case C => exact ..
(the tactic k_is has no namespace: write k_is) -/

/-! SHORT WORDS over the layer: a def of the text, its body, what a loop and a test want. -/
namespace L2
open PySem PySem.Spec PyProof.Rows

/-! ### the text by places -/
/-- the j-th statement of a class's body -/
def inClass (s : Stmt) (j : Nat) : Stmt := match s with
  | .ClassDef _ _ _ body _ _ _ _ _ _ _ => body.getD j (.Pass ⟨0, 0, 0, 0⟩)
  | _ => .Pass ⟨0, 0, 0, 0⟩
def defArgs (s : Stmt) : Arguments := match s with
  | .FunctionDef _ a _ _ _ _ _ _ _ _ => a
  | _ => { posonlyargs := [], args := [], vararg := none, kwonlyargs := [], kw_defaults := [], kwarg := none, defaults := [] }
def defBody (s : Stmt) : List Stmt := match s with
  | .FunctionDef _ _ b _ _ _ _ _ _ _ => b
  | _ => []
def defScope (s : Stmt) : Scope := match s with
  | .FunctionDef _ _ _ _ _ _ sc _ _ _ => sc
  | _ => { kind := .function, names := [], isGenerator := false, isCoroutine := false }

/-! ### no exception leaves a def -/
abbrev CX0 : CXT := fun _ _ _ _ _ _ => False
abbrev E0 : XK := fun _ _ _ => False
theorem pass0 {X : Cx} : Passes CX0 X E0 := fun _ _ _ _ _ _ _ h => h.elim

/-! ### a def (or method) of the text as it stands behind the top -/
structure Fun (K : PySem.W.Frag) (x qual : Str) (st : Stmt) (f : Addr) (fd : FuncData) : Prop where
  ex : ∃ (oc : Value) (od : Option Addr) (kV doc pm : Value) (an : Option Addr) (cdv ct : Value) (osl : Array (Option Value)),
    fd = PySem.W.fnOf x qual (defArgs st) (defBody st) (defScope st) .none kV doc pm an cdv ct ∧ K.lookup f = some ⟨oc, od, .func fd, osl⟩ ∧ PySem.W.codeIn K cdv qual = true
  kp : PySem.W.keepIn K (.ref f) = true
section
variable {P : Program} {w : World} {K : PySem.W.Frag} {mg : Str → Option Value} {base : Heap}
/-- THE RULE for a def: its body as a term of rules, and the reading of that term -/
theorem Fun.ok {x qual : Str} {st : Stmt} {f : Addr} {fd : FuncData} {N ps : List Str} {k : Nat} {sp : Sp} (F : Fun K x qual st f fd) (S : FnScope N ps (defScope st)) (len : ∀ vs H Q E, sp vs H Q E → vs.length = ps.length)
    (hbody : ∀ (cdv : Value) (A : Around) (outer : List Env) (s : Shared) (H : Hp) (vs : List V) (Q : VK) (E : XK), Room k (A.deeper (envOfC qual (defScope st) s.heap.objs.size f cdv)) → sp vs H Q E →
      ∃ t, PSs (cxOf CX0 P w K mg base N qual (defScope st) f cdv A outer s H E).nox (defBody st) t ∧ t { nx := fun _ H' => Q .non H', rt := Q } (start N vs) H) : FnOk P w K mg base CX0 (k + 1) f fd ps sp := by
  obtain ⟨oc, od, kV, doc, pm, an, cdv, ct, osl, rfl, lk, hcd⟩ := F.ex
  refine fn_of lk hcd S len fun A outer s H vs Q E hr hsp => ?_
  obtain ⟨t, h, q⟩ := hbody cdv A outer s H vs Q E hr hsp
  exact ⟨t, h.nox, q⟩
/-- how its arguments bind (no defaults): h is «fun _ _ _ _ _ _ us hl => match us, hl with | [_, _], _ => rfl», one _ a parameter -/
theorem Fun.binds {x qual : Str} {st : Stmt} {f : Addr} {fd : FuncData} {ps : List Str} (F : Fun K x qual st f fd)
    (h : ∀ (kV doc pm : Value) (an : Option Addr) (cdv ct : Value) (us : List Value), us.length = ps.length → bindArgs (PySem.W.fnOf x qual (defArgs st) (defBody st) (defScope st) .none kV doc pm an cdv ct) ⟨us, []⟩ = pure (ps.zip us)) : Binds K fd ps [] := by
  obtain ⟨oc, od, kV, doc, pm, an, cdv, ct, osl, rfl, lk, hcd⟩ := F.ex
  exact .all (h kV doc pm an cdv ct)
theorem fun_mk {x qual : Str} {st : Stmt} {f : Addr} {oc : Value} {od an : Option Addr} {osl : Array (Option Value)} {kV doc pm cdv ct : Value} (l : K.lookup f = some ⟨oc, od, .func (PySem.W.fnOf x qual (defArgs st) (defBody st) (defScope st) .none kV doc pm an cdv ct), osl⟩)
    (c : PySem.W.codeIn K cdv qual = true) (k : PySem.W.keepIn K (.ref f) = true) : Fun K x qual st f (PySem.W.fnOf x qual (defArgs st) (defBody st) (defScope st) .none kV doc pm an cdv ct) := ⟨⟨oc, od, kV, doc, pm, an, cdv, ct, osl, rfl, l, c⟩, k⟩
end
theorem hu_of {A : Around} {k : Nat} (hr : Room k A) : A.units + 1 < cLine := Nat.lt_of_le_of_lt (Nat.add_le_add_left (by decide : 1 ≤ 64) _) hr.units
theorem small1000 {n : Nat} (h : n ≤ 1000) : n < sizeLine := Nat.lt_of_le_of_lt h (by decide)

/-! ### expressions in short: the name that stands in the i-th slot -/
section
variable {X : Cx}
theorem pv (i : Nat) {x : Str} {pos : Pos} (hN : X.N[i]? = some x := by rfl) (hv : Vis X.env.scope x := by first | exact Or.inl rfl | exact Or.inr (Or.inl rfl) | exact Or.inr (Or.inr rfl)) (hd : (x == ("__debug__" : Str)) = false := by decide)
    (hcd : (x == ("__classdict__" : Str)) = false := by decide) : PE X (.Name x pos) (tVar i) := pe_var hN hv hd hcd
end

/-! ### tests -/
theorem iteF {A B : Prop} (h : B) : if false = true then A else B := by
  rw [if_neg Bool.false_ne_true]
  exact h
theorem iteT {A B : Prop} (h : A) : if true = true then A else B := by
  rw [if_pos rfl]
  exact h
theorem iteNS {c A B : Prop} [Decidable c] (hc : c) (h : B) : if (!decide c) = true then A else B := by
  rw [decide_eq_true hc]
  exact iteF h

/-! ### heaps -/
/-- all that was tracked is as it was -/
def Same (H H' : Hp) : Prop := ∀ b o, H b = some o → H' b = some o
theorem Same.trans {H H1 H2 : Hp} (a : Same H H1) (b : Same H1 H2) : Same H H2 := fun c o h => b c o (a c o h)
theorem Same.free {H H' : Hp} (e : Same H H') {l : Addr} (h : H' l = Option.none) : H l = Option.none := by
  cases q : H l with
  | none => rfl
  | some o =>
    rw [e l o q] at h
    cases h
theorem Same.seq {K : PySem.W.Frag} {H H' : Hp} {a : Addr} {xs : List V} (e : Same H H') (h : SqL K H a xs) : SqL K H' a xs := by
  rcases h with (h | ⟨o, h⟩) | h
  · exact .inl (.inl (e _ _ h))
  · exact .inl (.inr ⟨o, e _ _ h⟩)
  · exact .inr h

/-! ### a dict's pairs: keys that differ -/
section
variable {κ : Type} [DecidableEq κ]
theorem valV_not {kvs : List (κ × V)} {k : κ} (h : valV kvs k = none) : ¬ k ∈ kvs.map (·.1) := by
  intro m
  obtain ⟨p, hp, e⟩ := List.mem_map.mp m
  have q : (kvs.any fun kv => decide (kv.1 = k)) = true := List.any_eq_true.mpr ⟨p, hp, decide_eq_true e⟩
  rw [valV_any, h] at q
  exact absurd q (by simp)
theorem valV_in {kvs : List (κ × V)} {k : κ} {v : V} (h : valV kvs k = some v) : k ∈ kvs.map (·.1) := by
  have q : (kvs.any fun kv => decide (kv.1 = k)) = true := by
    rw [valV_any, h]
    all_goals rfl
  obtain ⟨p, hp, e⟩ := List.any_eq_true.mp q
  exact List.mem_map.mpr ⟨p, hp, of_decide_eq_true e⟩
theorem nd_snoc : ∀ {l : List κ} {k : κ}, l.Nodup → ¬ k ∈ l → (l ++ [k]).Nodup
  | [], k, _, _ => by simp
  | a :: r, k, h, hk => by
    obtain ⟨h1, h2⟩ := List.nodup_cons.mp h
    show (a :: (r ++ [k])).Nodup
    refine List.nodup_cons.mpr ⟨fun m => ?_, nd_snoc h2 fun m => hk (List.mem_cons.mpr (Or.inr m))⟩
    rcases List.mem_append.mp m with q | q
    · exact h1 q
    · exact hk (List.mem_cons.mpr (Or.inl (List.mem_singleton.mp q).symm))
end
end L2
namespace L2
open PySem PySem.Spec PyProof.Rows
/-! OWN RULES over the layer: sorted, isinstance, == of data, calls by name -/
section
variable {X : Cx}
theorem call_sorted : CallR X (.builtin "sorted") (fun xs H Q => ∃ (p : Addr) (ns : List Int), xs = [.ref p] ∧ SqL X.K H p (ns.map V.int) ∧ ns.length < 64 ∧
    ∀ (l : Addr) (ns' : List Int), H l = none → ns'.Perm ns → ns'.Pairwise (· ≤ ·) → Q (.ref l) (upd H l (.lst (ns'.map V.int)))) := by
  intro pins s σ H xs us Q I r h
  obtain ⟨p, ns, rfl, hS, h64, k⟩ := h
  obtain ⟨u, rfl, rx⟩ := vals1 r
  cases rx
  obtain ⟨its, rI, pl, hz⟩ := I.list hS
  have hI : IntsAre its ns := intsAre_of rI
  have hlen := rI.length
  rw [List.length_map] at hlen
  refine sorted_ints pl.isList hI (by omega) fun out ns' a1 a2 a3 => ?_
  obtain ⟨e, he⟩ := sortedAll_at s.heap its out
  have hl' : ns'.length = ns.length := a2.length_eq
  have hz' : (ns'.map V.int).length ≤ sizeLine := by rw [List.length_map, hl']; exact Nat.le_of_lt (small1000 (by omega))
  have he' : (sortedAll s.heap its out).get? (s.heap.objs.size + 1) = some { cls := .type "list", data := .seq out.toList.toArray e } := by rw [Array.toArray_toList]; exact he
  exact ⟨.ref (s.heap.objs.size + 1), _, I.laid (t' := s.toks) (fun b o e => sortedAll_old e) (Nat.le_succ _) (show ObjOk X.prog X.w _ _ _ (.lst (ns'.map V.int)) from ⟨hz', out.toList, e, vals_ints a1, he'⟩), rfl, k _ _ (I.hok.fresh (Nat.le_succ _)) a2 a3⟩
end
/-! ### == and != of data -/
mutual
inductive DV (K : PySem.W.Frag) (H : Hp) : V → PyData → Prop
  | non : DV K H .non .none
  | bl (b : Bool) : DV K H (.bl b) (.bool b)
  | int (i : Int) : DV K H (.int i) (.int i)
  | str (x : Str) : DV K H (.str x) (.str x)
  | lst {a : Addr} {xs : List V} {ds : List PyData} : SqL K H a xs → DVs K H xs ds → DV K H (.ref a) (.list ds)
  | tup {a : Addr} {xs : List V} {ds : List PyData} : SqT K H a xs → DVs K H xs ds → DV K H (.ref a) (.tuple ds)
inductive DVs (K : PySem.W.Frag) (H : Hp) : List V → List PyData → Prop
  | nil : DVs K H [] []
  | cons {v : V} {d : PyData} {vs : List V} {ds : List PyData} : DV K H v d → DVs K H vs ds → DVs K H (v :: vs) (d :: ds)
end
section
variable {X : Cx} {pins : List (Addr × Obj)} {σ : St} {H : Hp} {s : Shared}
mutual
theorem Inv.reads (I : Inv X pins σ H s) : ∀ {v : V} {d : PyData} {u : Value}, DV X.K H v d → RelV v u → ∃ as, Reads s.heap u d as
  | _, _, _, .non, r => by cases (show _ = Value.none from r); exact ⟨_, .none⟩
  | _, _, _, .bl b, r => by cases (show _ = Value.bool b from r); exact ⟨_, .bool b⟩
  | _, _, _, .int i, r => by obtain ⟨t, q⟩ := (show ∃ t, _ = Value.int i t from r); cases q; exact ⟨_, .int i t⟩
  | _, _, _, .str x, r => by obtain ⟨t, q⟩ := (show ∃ t, _ = Value.str x t from r); cases q; exact ⟨_, .str x t⟩
  | _, _, _, .lst (a := a) hS hd, r => by
    cases (show _ = Value.ref a from r)
    obtain ⟨its, rv, pl, hz⟩ := I.list hS
    obtain ⟨o, ho, hc, n, hdt⟩ := pl.isList
    obtain ⟨as, ra⟩ := Inv.readsAll I hd rv
    exact ⟨_, Reads.list ho hc hdt (by rw [List.toList_toArray]; exact ra)⟩
  | _, _, _, .tup (a := a) hS hd, r => by
    cases (show _ = Value.ref a from r)
    obtain ⟨its, rv, pl, hz⟩ := I.tuple hS
    obtain ⟨o, ho, hc, n, hdt⟩ := pl
    obtain ⟨as, ra⟩ := Inv.readsAll I hd rv
    exact ⟨_, Reads.tuple ho hc hdt (by rw [List.toList_toArray]; exact ra)⟩
theorem Inv.readsAll (I : Inv X pins σ H s) : ∀ {vs : List V} {ds : List PyData} {us : List Value}, DVs X.K H vs ds → Vals vs us → ∃ as, ReadsAll s.heap us ds as
  | _, _, _, .nil, r => by cases r; exact ⟨_, .nil⟩
  | _, _, _, .cons h hr, r => by
    cases r with
    | cons r1 r2 =>
      obtain ⟨as, a⟩ := Inv.reads I h r1
      obtain ⟨bs, b⟩ := Inv.readsAll I hr r2
      exact ⟨_, .cons a b⟩
end
end
def rEqD (K : PySem.W.Frag) : R2 := fun x y H Q => ∃ dx dy, DV K H x dx ∧ DV K H y dy ∧ SeqAt.shaped dx = true ∧ SeqAt.shaped dy = true ∧ Q (.bl (PyData.eqv dx dy)) H
def rNeD (K : PySem.W.Frag) : R2 := fun x y H Q => ∃ dx dy, DV K H x dx ∧ DV K H y dy ∧ SeqAt.shaped dx = true ∧ SeqAt.shaped dy = true ∧ Q (.bl (!PyData.eqv dx dy)) H
section
variable {X : Cx}
theorem op_neD (hu : X.A.units + 64 < cLine) : OpR X (compareOp .NotEq) (rNeD X.K) := by
  intro pins s σ H x y v u Q I rx ry h
  obtain ⟨dx, dy, h1, h2, s1, s2, q⟩ := h
  obtain ⟨as, a⟩ := I.reads h1 rx
  obtain ⟨bs, b⟩ := I.reads h2 ry
  exact ne_dataH a b s1 s2 hu ⟨.bl _, H, I, rfl, q⟩
end
/-! ### the data that our laws compare -/
def pairD (p : Int × Int) : PyData := .tuple [.int p.1, .int p.2]
theorem canLay_ints : ∀ ns : List Int, PyData.canLayAll0 (ns.map PyData.int) = true
  | [] => by simp [PyData.canLayAll0]
  | n :: r => by simp [PyData.canLayAll0, PyData.canLay0, canLay_ints r]
theorem depth_ints : ∀ ns : List Int, PyData.depthAll (ns.map PyData.int) = 0
  | [] => by simp [PyData.depthAll]
  | n :: r => by simp [PyData.depthAll, PyData.depth, depth_ints r]
theorem shaped_ints (ns : List Int) : SeqAt.shaped (.list (ns.map PyData.int)) = true := by
  simp [SeqAt.shaped, PyData.canLay0, PyData.depth, canLay_ints, depth_ints]
theorem eqv_ints (ns : List Int) : PyData.eqv (.list (ns.map PyData.int)) (.list (ns.map PyData.int)) = true := by
  rw [PyData.eqv]
  induction ns with
  | nil => rfl
  | cons n r ih => rw [List.map_cons, PyData.eqvAll, ih]; simp [PyData.eqv]
theorem dvs_ints {K : PySem.W.Frag} {H : Hp} : ∀ ns : List Int, DVs K H (ns.map V.int) (ns.map PyData.int)
  | [] => .nil
  | n :: r => .cons (.int n) (dvs_ints r)
/-- a list of pairs: its items are tuples -/
inductive Tups (H : Hp) : List V → List (Int × Int) → Prop
  | nil : Tups H [] []
  | cons {t : Addr} {p : Int × Int} {vs : List V} {ps : List (Int × Int)} : H t = some (.tup [.int p.1, .int p.2]) → Tups H vs ps → Tups H (.ref t :: vs) (p :: ps)
theorem Tups.same {H H' : Hp} (e : Same H H') : ∀ {vs : List V} {ps : List (Int × Int)}, Tups H vs ps → Tups H' vs ps
  | _, _, .nil => .nil
  | _, _, .cons h r => .cons (e _ _ h) (r.same e)
theorem Tups.length {H : Hp} : ∀ {vs : List V} {ps : List (Int × Int)}, Tups H vs ps → vs.length = ps.length
  | _, _, .nil => rfl
  | _, _, .cons _ r => congrArg (· + 1) r.length
theorem Tups.append {H : Hp} : ∀ {vs ws : List V} {ps qs : List (Int × Int)}, Tups H vs ps → Tups H ws qs → Tups H (vs ++ ws) (ps ++ qs)
  | _, _, _, _, .nil, k => k
  | _, _, _, _, .cons h r, k => .cons h (r.append k)
theorem Tups.get {H : Hp} : ∀ {vs : List V} {ps : List (Int × Int)} {i : Nat} {x : V}, Tups H vs ps → vs[i]? = some x → ∃ t p, x = .ref t ∧ ps[i]? = some p ∧ H t = some (.tup [.int p.1, .int p.2])
  | _, _, i, x, .nil, e => by simp at e
  | _, _, 0, x, .cons h r, e => by cases e; exact ⟨_, _, rfl, rfl, h⟩
  | _, _, i + 1, x, .cons h r, e => r.get (i := i) (by simpa using e)
/-! ### heaps -/
theorem same_new {H : Hp} {p : Addr} (h : H p = none) (o : HO) : Same H (upd H p o) := fun b u q => by rw [upd_ne (ne_of_none q h)]; exact q
/-- all that was tracked but at a is as it was -/
def SameBut (H H' : Hp) (a : Addr) : Prop := ∀ b o, H b = some o → b ≠ a → H' b = some o
/-! ### tests -/
theorem iteD {c A B : Prop} [Decidable c] (hc : c) (h : A) : if decide c = true then A else B := by rw [if_pos (decide_eq_true hc)]; exact h
theorem iteDn {c A B : Prop} [Decidable c] (hc : ¬ c) (h : B) : if decide c = true then A else B := by rw [if_neg (by rw [decide_eq_false hc]; exact Bool.false_ne_true)]; exact h
theorem ite2D {c A B : Prop} [Decidable c] (h1 : c → A) (h2 : ¬ c → B) : if decide c = true then A else B := by
  by_cases hc : c
  · exact iteD hc (h1 hc)
  · exact iteDn hc (h2 hc)
theorem ite2N {c A B : Prop} [Decidable c] (h1 : ¬ c → A) (h2 : c → B) : if (!decide c) = true then A else B := by
  by_cases hc : c
  · exact iteNS hc (h2 hc)
  · rw [if_pos (by rw [decide_eq_false hc]; rfl)]; exact h1 hc
/-! ### defs by their names -/
structure Cal (P : Program) (w : World) (K : PySem.W.Frag) (mg : Str → Option Value) (base : Heap) (CX : CXT) (k : Nat) (x : Str) (ps : List Str) (sp : Sp) : Prop where
  ex : ∃ (f : Addr) (fd : FuncData), FnOk P w K mg base CX k f fd ps sp ∧ Binds K fd ps [] ∧ mg x = some (.ref f) ∧ PySem.W.keepIn K (.ref f) = true ∧ ∃ (oc : Value) (od : Option Addr) (osl : Array (Option Value)), K.lookup f = some ⟨oc, od, .func fd, osl⟩
structure Df (K : PySem.W.Frag) (mg : Str → Option Value) (x : Str) (ps : List Str) (st : Stmt) : Prop where
  ex : ∃ (f : Addr) (fd : FuncData), Fun K x x st f fd ∧ Binds K fd ps [] ∧ mg x = some (.ref f)
section
variable {P : Program} {w : World} {K : PySem.W.Frag} {mg : Str → Option Value} {base : Heap} {CX : CXT} {x : Str} {ps : List Str} {st : Stmt} {sp : Sp} {N : List Str} {k : Nat}
theorem Df.ok (D : Df K mg x ps st) (S : FnScope N ps (defScope st)) (len : ∀ vs H Q E, sp vs H Q E → vs.length = ps.length)
    (hbody : ∀ (f : Addr) (cdv : Value) (A : Around) (outer : List Env) (s : Shared) (H : Hp) (vs : List V) (Q : VK) (E : XK), Room k (A.deeper (envOfC x (defScope st) s.heap.objs.size f cdv)) → sp vs H Q E →
      ∃ t, PSs (cxOf CX0 P w K mg base N x (defScope st) f cdv A outer s H E).nox (defBody st) t ∧ t { nx := fun _ H' => Q .non H', rt := Q } (start N vs) H) : Cal P w K mg base CX0 (k + 1) x ps sp := by
  obtain ⟨f, fd, F, b, m⟩ := D.ex
  obtain ⟨oc, od, kV, doc, pm, an, cdv, ct, osl, e1, e2, e3⟩ := id F.ex
  exact ⟨f, fd, F.ok S len (fun cdv A outer s H vs Q E hr h => hbody f cdv A outer s H vs Q E hr h), b, m, F.kp, oc, od, osl, e2⟩
theorem Cal.imp {sp' : Sp} (C : Cal P w K mg base CX k x ps sp) (h : ∀ vs H Q E, sp' vs H Q E → sp vs H Q E) : Cal P w K mg base CX k x ps sp' := by
  obtain ⟨f, fd, F, r⟩ := C.ex
  exact ⟨f, fd, F.imp h, r⟩
end
section
variable {X : Cx} {k : Nat} {x : Str} {ps : List Str} {sp : Sp} {e : Expr} {es : List Expr} {t : TA} {p pos : Pos}
theorem pe_calf (C : Cal X.prog X.w X.K X.mg X.base CX0 k x ps sp) (hr : Room k X.A) (hg : Gl X x) (ha : PA X (e :: es) t) (hdb : (x == ("__debug__" : Str)) = false := by decide)
    (he : starEach (e :: es) X.env = (false, eval e X.env) :: starEach es X.env := by rfl) (hpl : (backTo pos (starEach es X.env)).any (·.1) = false := by rfl) : PE X (.Call (.Name x p) (e :: es) [] pos) (tCall sp [] E0 t) := by
  obtain ⟨f, fd, F, b, m, kk, _⟩ := C.ex
  exact pe_call F hr hg m kk b .nil pass0 ha hdb he hpl
end
/-! ### a statement with its join said -/
theorem ps_cut {X : Cx} {st : Stmt} {t : TS} (h : PS X st t) : PS X st (fun D σ H => ∃ J : St → Hp → Prop, t { D with nx := J } σ H ∧ ∀ σ' H', J σ' H' → D.nx σ' H') := by
  intro pins s σ H D I hh
  obtain ⟨J, h1, h2⟩ := hh
  refine thn (h pins s σ H _ I h1) fun f s' q => ?_
  cases f with
  | next => obtain ⟨σ', H', I', j⟩ := q; exact ⟨σ', H', I', h2 _ _ j⟩
  | brk => exact q
  | cont => exact q
  | ret u => exact q
theorem map_get {os : List Int} {i : Nat} {x : V} (h : (os.map V.int)[i]? = some x) : ∃ z, x = .int z ∧ os[i]? = some z := by
  rw [List.getElem?_map] at h
  cases e : os[i]? with
  | none => rw [e] at h; cases h
  | some z => rw [e] at h; exact ⟨z, (Option.some.inj h).symm, rfl⟩
/-! ### a list of pairs that grows -/
theorem Tups.upd {H : Hp} {l : Addr} {xs ys : List V} (e : H l = some (.lst xs)) : ∀ {vs : List V} {ps : List (Int × Int)}, Tups H vs ps → Tups (upd H l (.lst ys)) vs ps
  | _, _, .nil => .nil
  | _, _, .cons h r => .cons (by rw [upd_ne (ne_of h e (by intro z; cases z))]; exact h) (r.upd e)
structure Grow (H H' : Hp) (l : Addr) (vs : List V) (ps : List (Int × Int)) : Prop where
  same : Same H H'
  at_ : H' l = some (.lst vs)
  tups : Tups H' vs ps
theorem Grow.tup {H H1 : Hp} {l t : Addr} {vs : List V} {ps : List (Int × Int)} {o : HO} (G : Grow H H1 l vs ps) (ht : H1 t = none) : Grow H (upd H1 t o) l vs ps :=
  ⟨G.same.trans (same_new ht _), same_new ht _ _ _ G.at_, G.tups.same (same_new ht _)⟩
theorem Grow.push {H H1 : Hp} {l t : Addr} {vs : List V} {ps : List (Int × Int)} {a b : Int} (G : Grow H H1 l vs ps) (hl : H l = none) (ht : H1 t = none) :
    Grow H (upd (upd H1 t (.tup [.int a, .int b])) l (.lst (vs ++ [.ref t]))) l (vs ++ [.ref t]) (ps ++ [(a, b)]) := by
  have G1 : Grow H (upd H1 t (.tup [.int a, .int b])) l vs ps := G.tup ht
  refine ⟨fun c o e => ?_, upd_same, (G1.tups.upd G1.at_).append (.cons ?_ .nil)⟩
  · rw [upd_ne (ne_of_none e hl)]
    exact G1.same c o e
  · rw [upd_ne (ne_of_none G.at_ ht).symm]
    exact upd_same
theorem bb_len : bootBuiltins "len" = some (.builtin "len") := by decide +kernel
theorem bb_isinstance : bootBuiltins "isinstance" = some (.builtin "isinstance") := by decide +kernel
theorem bb_sorted : bootBuiltins "sorted" = some (.builtin "sorted") := by decide +kernel
theorem bb_sum : bootBuiltins "sum" = some (.builtin "sum") := by decide +kernel
theorem bb_int : bootBuiltins "int" = some (.type "int") := by decide +kernel
theorem bb_list : bootBuiltins "list" = some (.type "list") := by decide +kernel
theorem bb_enumerate : bootBuiltins "enumerate" = some (.type "enumerate") := by decide +kernel
section
variable {X : Cx} {a b c : Expr} {ta tb tc : TT} {pos : Pos}
theorem pt_and2 (ha : PT X a ta) (hb : PT X b tb) : PT X (.BoolOp .And [a, b] pos) (tAnd ta tb) := (pw_and ha (pw_and1 hb)).pt
theorem pt_or2 (ha : PT X a ta) (hb : PT X b tb) : PT X (.BoolOp .Or [a, b] pos) (tOr ta tb) := (pw_or ha (pw_or1 hb)).pt
end
/-! ### the built-in names stand as they are -/
structure Bl (mg : Str → Option Value) : Prop where
  n_len : mg "len" = none
  n_range : mg "range" = none
  n_list : mg "list" = none
  n_sorted : mg "sorted" = none
  n_isinstance : mg "isinstance" = none
  n_int : mg "int" = none
  n_bool : mg "bool" = none
  n_tuple : mg "tuple" = none
  n_dict : mg "dict" = none
  n_sum : mg "sum" = none
  n_max : mg "max" = none
  n_min : mg "min" = none
  n_enumerate : mg "enumerate" = none
  n_zip : mg "zip" = none
  n_set : mg "set" = none
  n_str : mg "str" = none
  n_ValueError : mg "ValueError" = none
/-! ### in, not in over ints -/
theorem all_flat : ∀ os : List Int, (os.map V.int).all flatV = true
  | [] => rfl
  | _ :: r => by rw [List.map_cons, List.all_cons, all_flat r]; rfl
theorem inV_ints (x : Int) : ∀ os : List Int, inV (.int x) (os.map V.int) = decide (x ∈ os)
  | [] => by simp [inV]
  | o :: r => by
    have ih := inV_ints x r
    unfold inV at ih ⊢
    rw [List.map_cons, List.any_cons, ih]
    show ((o == x) || decide (x ∈ r)) = _
    by_cases h : o = x
    · subst h; simp
    · simp [h, Ne.symm h, beq_eq_false_iff_ne.mpr h]
section
variable {X : Cx}
theorem op_in_ints : OpR X (compareOp .In) (fun x y H Q => ∃ (z : Int) (p : Addr) (os : List Int), x = .int z ∧ y = .ref p ∧ SqL X.K H p (os.map V.int) ∧ Q (.bl (decide (z ∈ os))) H) := by
  intro pins s σ H x y v u Q I rx ry h
  obtain ⟨z, p, os, rfl, rfl, hS, q⟩ := h
  refine op_in_seq pins s σ H _ _ v u Q I rx ry ⟨p, _, rfl, .inl hS, rfl, all_flat os, ?_⟩
  rw [inV_ints]
  exact q
theorem op_notIn_ints : OpR X (compareOp .NotIn) (fun x y H Q => ∃ (z : Int) (p : Addr) (os : List Int), x = .int z ∧ y = .ref p ∧ SqL X.K H p (os.map V.int) ∧ Q (.bl (!decide (z ∈ os))) H) := by
  intro pins s σ H x y v u Q I rx ry h
  obtain ⟨z, p, os, rfl, rfl, hS, q⟩ := h
  refine op_notIn_seq pins s σ H _ _ v u Q I rx ry ⟨p, _, rfl, .inl hS, rfl, all_flat os, ?_⟩
  rw [inV_ints]
  exact q
end
/-! ### isinstance of built-in types -/
end L2
namespace L2
open PySem PySem.Spec PyProof.Rows
/-! COMPREHENSIONS of lists: one clause, at most one test; nothing raises within -/
/-- the block's context: its own names, the iterator's records fp, the frame around as a caller's -/
abbrev Cx.blk (X : Cx) (scope : Scope) (cl : List (Str × Addr)) (N : List Str) (C : Addr) (fp : List Addr) (pins : List (Addr × Obj)) (s : Shared) (H : Hp) : Cx :=
  { X with N := N, s₀ := s, H₀ := H, env := compEnvC scope cl C X.env, outer := X.stack, ex := fp, fn := fun _ => false, pn := X.pn ++ pins, xe := fun _ _ => False }
structure BlkS (X : Cx) (scope : Scope) (cl : List (Str × Addr)) (N : List Str) : Prop where
  clos : closureFor scope X.env = pure cl
  kind : scope.kind = .function
  nocell : ∀ y ∈ scope.names, y.2 ≠ .cell
  names : ∀ x ∈ scope.names, x.2 = .local → scope.names.lookup x.1 = some .local
  sub : ∀ x c, cl.lookup x = some c → X.env.cells.lookup x = some c
  has : ∀ x, ((relabel scope X.env).names.lookup x = some .cell ∨ (relabel scope X.env).names.lookup x = some .free) → ∃ c, cl.lookup x = some c
/-- what the block sees of the names around it -/
structure FromOuter (X : Cx) (scope : Scope) (cl : List (Str × Addr)) (N : List Str) (σ σc : St) : Prop where
  len : σc.length = N.length
  look : ∀ (j : Nat) (y : Str) (v : V), N[j]? = some y → σc[j]? = some (some v) → ∃ (i : Nat) (c : Addr), X.N[i]? = some y ∧ σ[i]? = some (some v) ∧ Vis X.env.scope y ∧ cl.lookup y = some c ∧
    (X.env.kindOf y = some .cell ∨ X.env.kindOf y = some .free) ∧ ((relabel scope X.env).names.lookup y = some .cell ∨ (relabel scope X.env).names.lookup y = some .free)
theorem FromOuter.none {X : Cx} {scope : Scope} {cl : List (Str × Addr)} {N : List Str} {σ : St} : FromOuter X scope cl N σ (List.replicate N.length Option.none) := by
  refine ⟨List.length_replicate, fun j y v _ h => ?_⟩
  rw [List.getElem?_replicate] at h
  split at h
  · cases h
  · cases h
/-- the tests of a clause -/
def PTs (X : Cx) (ifs : List Expr) (t : TT) : Prop :=
  ∀ (pins : List (Addr × Obj)) (s : Shared) (σ : St) (H : Hp) (Q : Bool → Hp → Prop), Inv X pins σ H s → t σ H Q →
    wpAny (model X.prog X.w) X.A (forIn ifs true fun c r => if r = true then do let ok ← isTrue c X.env (eval c X.env); pure (ForInStep.yield ok) else pure (ForInStep.yield r)) (TP X pins σ Q) X.xe s
def tAlways : TT := fun _ H Q => Q true H
theorem pts_nil {X : Cx} : PTs X [] tAlways := by
  intro pins s σ H Q I h
  rw [List.forIn_nil]
  exact wpAny_pure ⟨H, I, h⟩
theorem pts_one {X : Cx} {c : Expr} {t : TT} (hc : PT X c t) : PTs X [c] t := by
  intro pins s σ H Q I h
  rw [List.forIn_cons]
  refine wpAny_bind ?_
  rw [if_pos rfl]
  refine wpAny_bind (thn (hc pins s σ H Q I h) fun b s1 q => wpAny_pure ?_)
  show wpAny _ _ (forIn [] b _) _ _ s1
  rw [List.forIn_nil]
  exact wpAny_pure q
/-- [elt for tg in iter if ..]: like a loop; the new list stands at D -/
def tLC (R : St → St → Prop) (wi : TI) (g : TG) (tt : TT) (te : TE) : TE := fun σ H Q => wi σ H fun J H1 => ∀ D, H1 D = none → ∃ σc, R σ σc ∧ ∃ W : Nat → Nat → St → Hp → Prop, (∃ m, W 0 m σc (upd H1 D (.lst []))) ∧
  ∀ i m σ' H', W i m σ' H' → (J.stop i H' ∧ Q (.ref D) H') ∨ (J.go i H' ∧ ∃ N : St → Hp → Prop, (∀ σ2 H2, N σ2 H2 → ∃ m', m' < m ∧ W (i + 1) m' σ2 H2) ∧
    ∀ x H2, J.yld i H' x H2 → g x σ' H2 fun σ3 H3 => tt σ3 H3 fun b H4 => if b = true then te σ3 H4 fun y H5 => ∃ xs, H5 D = some (.lst xs) ∧ xs.length < sizeLine ∧ N σ3 (upd H5 D (.lst (xs ++ [y]))) else N σ3 H4)
theorem comp_loop {prog : Program} {w : World} {A : Around} {R : Result → Shared → Prop} {s : Shared} {elt target iter : Expr} {ifs : List Expr} {scope : Scope} {pos : Pos} {it acc : Value} {env : Env} (I : Nat → Shared → Prop)
    (turn : ∀ n s, I n s → wpAny (model prog w) A (pyNext it) (fun r s₁ => match r with
      | none => R (.ok .next) s₁
      | some v => wpAny (model prog w) A (letOwnedTupleGo target it v) (fun _ s₁' => wpAny (model prog w) A (assign target env v) (fun _ s₂ =>
          wpAny (model prog w) A (forIn ifs true fun c r => if r = true then do let ok ← isTrue c env (eval c env); pure (ForInStep.yield ok) else pure (ForInStep.yield r)) (fun ok s₃ =>
            if ok = true then wpAny (model prog w) A (eval elt env) (fun x s₄ =>
              wpAny (model prog w) A (call (.builtin "list.append") [acc, x]) (fun _ s₅ => ∃ m, m < n ∧ I m s₅) (fun _ _ => False) s₄) (fun _ _ => False) s₃
            else ∃ m, m < n ∧ I m s₃) (fun _ _ => False) s₂) (fun _ _ => False) s₁') (fun _ _ => False) s₁) (fun _ _ => False) s)
    (n : Nat) (h : I n s) : codeAny (model prog w) A (.compLoop (.ListComp elt [⟨target, iter, ifs, 0⟩] scope pos) 0 it acc env) R s := by
  refine codeAny_loop rfl I (fun n s hI => ?_) n h
  show wpAny _ A ((compTurn (.ListComp elt [⟨target, iter, ifs, 0⟩] scope pos) 0 it acc env).onRaise (fun x => do noteFrame x env; theTreesLotGoes x)) _ _ s
  refine wpAny_noted ?_
  rw [compTurn_list]
  refine wpAny_bind (wpAny_standAt (wpAny_bind (wpAny_mono (turn n s hI) (fun r s₁ h₁ => ?_) fun _ _ h' => h'.elim)))
  cases r with
  | none => exact wpAny_pure h₁
  | some v =>
    refine wpAny_bind (wpAny_mono h₁ (fun _ s₁' h₁' => ?_) fun _ _ h' => h'.elim)
    refine wpAny_bind (wpAny_mono h₁' (fun _ s₂ h₂ => wpAny_bind (wpAny_mono h₂ (fun ok s₃ h₃ => ?_) fun _ _ h' => h'.elim)) fun _ _ h' => h'.elim)
    cases ok with
    | false => exact wpAny_pure ⟨rfl, h₃⟩
    | true =>
      exact wpAny_bind (wpAny_bind (wpAny_mono h₃ (fun x s₄ h₄ => wpAny_bind (wpAny_mono h₄ (fun _ s₅ h₅ => wpAny_pure (wpAny_pure ⟨rfl, h₅⟩)) fun _ _ h' => h'.elim)) fun _ _ h' => h'.elim))
/-- C is a record of the block's own -/
structure CFree (X : Cx) (pins : List (Addr × Obj)) (H : Hp) (C : Addr) : Prop where
  free : H C = none
  neL : C ≠ X.env.locals
  young : X.s₀.heap.objs.size ≤ C
  cells : ∀ x c, X.env.cells.lookup x = some c → c ≠ C
  pins : ∀ p ∈ X.pn ++ pins, p.1 ≠ C
section
variable {X : Cx} {scope : Scope} {cl : List (Str × Addr)} {N : List Str} {tg iter elt : Expr} {ifs : List Expr} {wi : TI} {g : TG} {tt : TT} {te : TE} {pos : Pos}
theorem Inv.nstk {pins : List (Addr × Obj)} {σ : St} {H : Hp} {s : Shared} (I : Inv X pins σ H s) {b : Addr} (h1 : b ≠ X.env.locals) (h2 : b ∉ X.fs) : b ∉ frs X.stack := fun hb => by
  rcases List.mem_cons.mp (I.stkSub b hb) with z | z
  · exact h1 z
  · exact h2 z
theorem blk_start {pins : List (Addr × Obj)} {σ σc : St} {H : Hp} {s : Shared} {h₁ : Heap} {m : Str → Option Value} {fp : List Addr} (B : BlkS X scope cl N) (I : Inv X pins σ H s) (hσ : FromOuter X scope cl N σ σc)
    (hns : h₁.Ns s.heap.objs.size m) (kept : ∀ b o, s.heap.get? b = some o → h₁.get? b = some o) (hfp : ∀ b ∈ fp, FpOk X pins H b) (hfo : ∀ b ∈ fp, ∃ o, s.heap.get? b = some o) (tk : Nat) :
    Inv (X.blk scope cl N s.heap.objs.size fp pins s H) [] σc H { s with heap := h₁, toks := tk } := by
  have nsz : ∀ {b : Addr} {o : Obj}, s.heap.get? b = some o → b ≠ s.heap.objs.size := fun e => Nat.ne_of_lt (Heap.lt_size e)
  have cellK : ∀ c v, s.heap.IsCell c v → h₁.IsCell c v := fun c v ⟨o, ho, hd⟩ => ⟨o, kept c o ho, hd⟩
  have ok : (X.blk scope cl N s.heap.objs.size fp pins s H).Ok :=
    { mod := I.ok.mod
      kind := B.kind
      glob := I.ok.glob
      blt := I.ok.blt
      above := Nat.le_refl _
      inj := fun x y c e1 e2 => I.ok.inj x y c (B.sub x c e1) (B.sub y c e2)
      has := B.has
      cab := fun x c h => nomatch h
      hd := I.ok.hd
      frames := I.ok.frames
      stk := .inl rfl
      exf := fun b hb => ⟨let ⟨o, e⟩ := hfo b hb; nsz e, fun x c e => (hfp b hb).2.2.2.2.1 x c (B.sub x c e)⟩
      bs := fun b o e => I.bs b o e
      bsz := Nat.le_trans I.ok.bsz I.sz
      noex := fun b o e hb => by
        rcases (hfp b hb).2.2.2.1 with z | z
        · exact I.ok.noex b o e z
        · exact absurd (Nat.lt_of_lt_of_le (Heap.lt_size (I.ok.bs b o e).1) z) (Nat.lt_irrefl _)
      exfs := fun b hb => I.nstk (hfp b hb).2.1 (hfp b hb).2.2.1
      funs := I.stack
      frf := I.stkFree }
  exact
    { ok := ok
      os := rfl
      bare := I.bare
      base := Un.kept kept
      loc := ⟨m, hns, fun j y v hj hv _ => by
        obtain ⟨i, c, e1, e2, vis, ec, kd, kd'⟩ := hσ.look j y v hj hv
        obtain ⟨m', hm, hl⟩ := I.loc
        obtain ⟨u, ru, lk⟩ := hl i y v e1 e2 vis
        refine ⟨u, ru, .inr ⟨kd', c, ec, ?_⟩⟩
        rcases lk with ⟨k1, _⟩ | ⟨_, c', ec', hc⟩
        · rcases kd with kd | kd <;> (rw [k1] at kd; cases kd)
        · have e := (B.sub y c ec).symm.trans ec'
          cases e
          exact cellK _ _ hc⟩
      cell := fun x c e => let ⟨v, z⟩ := I.cell x c (B.sub x c e); ⟨v, cellK c v z⟩
      free := I.hok.fresh (Nat.le_refl _)
      freeC := fun x c e => I.freeC x c (B.sub x c e)
      pin := fun p hp => by
        rw [List.append_nil] at hp
        obtain ⟨e, n, ne, nf, d⟩ := I.pin p hp
        exact ⟨kept _ _ e, n, nsz e, I.nstk ne nf, d⟩
      hok := I.hok.kept kept
      len := hσ.len }
/-- the block's run -/
theorem lc_core {pins : List (Addr × Obj)} {σ : St} {H : Hp} {s : Shared} {Q : VK} (B : BlkS X scope cl N) (hc : X.calm = true) (hi : PI X tg iter wi)
    (hg : ∀ C fp pins s H, PG (X.blk scope cl N C fp pins s H) tg g) (ht : ∀ C fp pins s H, PTs (X.blk scope cl N C fp pins s H) ifs tt) (he : ∀ C fp pins s H, PE (X.blk scope cl N C fp pins s H) elt te)
    (I : Inv X pins σ H s) (h : tLC (FromOuter X scope cl N) wi g tt te σ H Q) :
    wpAny (model X.prog X.w) X.A (eval iter X.env) (fun x s₁ => wpAny (model X.prog X.w) X.A (pyIter x) (fun it s₂ => wpAny (model X.prog X.w) X.A (newList []) (fun acc s₃ =>
      wpAny (model X.prog X.w) X.A (newFunctionEnv scope X.env.globals cl [] X.env.qual none .none (some X.env)) (fun cenv s₄ =>
        codeAny (model X.prog X.w) X.A (.compStart (.ListComp elt [⟨tg, iter, ifs, 0⟩] scope pos) 0 it acc { cenv with scope := relabel scope X.env })
          (fun r s' => r = .ok .next ∧ ∃ D H' m, acc = .ref D ∧ Inv X pins σ H' s' ∧ s'.heap.Ns cenv.locals m ∧ CFree X pins H' cenv.locals ∧ Q (.ref D) H') s₄) X.xe s₃) X.xe s₂) X.xe s₁) X.xe s := by
  refine thn (hi pins s σ H _ I h) fun v s1 h1 => thn h1 fun itv s2 h2 => ?_
  obtain ⟨it, fp, tn, J, H2, e, I2, T, st2, f2, rest⟩ := h2
  subst e
  have hD : H2 s2.heap.objs.size = none := I2.hok.fresh (Nat.le_refl _)
  obtain ⟨σc, hσ, W, ⟨m0, w0⟩, turn⟩ := rest s2.heap.objs.size hD
  refine wpAny_newObj_type (wpAny_newFunctionEnv B.nocell (by intro y hy; simp at hy) (fun h₁ hns₁ hsb₁ => ?_) B.kind)
  have I3 : Inv X pins σ (upd H2 s2.heap.objs.size (.lst [])) { s2 with heap := s2.heap.push { cls := .type "list", dict := none, data := .seq ([] : List Value).toArray }, toks := s2.toks } := I2.lnew (its := []) .nil (by show 0 ≤ sizeLine; decide)
  dsimp only at hns₁ hsb₁ ⊢
  have fo : ∀ b ∈ fp, ∃ o, s2.heap.get? b = some o ∧ ∀ v, o.data ≠ .cell v := T.obj 0 _ st2
  have k3 : ∀ b o, s2.heap.get? b = some o → (s2.heap.push { cls := .type "list", dict := none, data := .seq ([] : List Value).toArray }).get? b = some o := fun b o e => Heap.get?_push_of_some _ e
  have kept : ∀ b o, (s2.heap.push { cls := .type "list", dict := none, data := .seq ([] : List Value).toArray }).get? b = some o → h₁.get? b = some o := fun b o e =>
    hsb₁.extBut b o (Nat.ne_of_lt (Heap.lt_size e)) (Heap.get?_push_of_some _ e)
  have f3 : ∀ b ∈ fp, FpOk X pins (upd H2 s2.heap.objs.size (.lst [])) b := fun b hb => by
    obtain ⟨o, e, _⟩ := fo b hb
    refine ⟨?_, (f2 b hb).2⟩
    rw [upd_ne (Nat.ne_of_lt (Heap.lt_size e))]
    exact (f2 b hb).1
  have Ic := blk_start (m := _) B I3 hσ hns₁ kept f3 (fun b hb => let ⟨o, e, _⟩ := fo b hb; ⟨o, k3 b o e⟩) (s2.toks + ([] : List (Str × Value)).length)
  have st4 : tn 0 h₁ := T.keep 0 _ _ st2 fun b _ o e => kept b o (k3 b o e)
  have stat : ∀ {H' : Hp}, (∀ b ∈ fp, H' b = none) → ∀ b ∈ fp, FpOk (X.blk scope cl N (s2.heap.push { cls := .type "list", dict := none, data := .seq ([] : List Value).toArray }).objs.size fp pins { s2 with heap := s2.heap.push { cls := .type "list", dict := none, data := .seq ([] : List Value).toArray }, toks := s2.toks } (upd H2 s2.heap.objs.size (.lst []))) [] H' b := fun hn b hb => by
    obtain ⟨o, e, _⟩ := fo b hb
    refine ⟨hn b hb, Nat.ne_of_lt (Heap.lt_size (k3 b o e)), I3.nstk (f3 b hb).2.1 (f3 b hb).2.2.1, .inl hb, fun x c e => (f3 b hb).2.2.2.2.1 x c (B.sub x c e), fun p hp => ?_⟩
    rw [List.append_nil] at hp
    exact (f3 b hb).2.2.2.2.2 p hp
  have fin : ∀ {σ' : St} {H' : Hp} {s' : Shared}, Inv (X.blk scope cl N (s2.heap.push { cls := .type "list", dict := none, data := .seq ([] : List Value).toArray }).objs.size fp pins { s2 with heap := s2.heap.push { cls := .type "list", dict := none, data := .seq ([] : List Value).toArray }, toks := s2.toks } (upd H2 s2.heap.objs.size (.lst []))) [] σ' H' s' →
      Inv X pins σ H' s' ∧ (∃ m, s'.heap.Ns (s2.heap.push { cls := .type "list", dict := none, data := .seq ([] : List Value).toArray }).objs.size m) ∧ CFree X pins H' (s2.heap.push { cls := .type "list", dict := none, data := .seq ([] : List Value).toArray }).objs.size := fun {σ' H' s'} J' => by
    refine ⟨I3.call' J'.os J'.base J'.hok J'.bare fun b hb => ⟨(f3 b hb).2.2.2.1, (f3 b hb).2.1, (f3 b hb).2.2.2.2.1, (f3 b hb).2.2.2.2.2⟩, ?_, J'.free, Nat.ne_of_gt I3.lt, I3.sz, fun x c e => ?_, fun p hp => ?_⟩
    · obtain ⟨m, hm, _⟩ := J'.loc
      exact ⟨m, hm⟩
    · obtain ⟨v, o, ho, _⟩ := I3.cell x c e
      exact Nat.ne_of_lt (Heap.lt_size ho)
    · exact Nat.ne_of_lt (Heap.lt_size (I3.pin p hp).1)
  have loop : codeAny (model X.prog X.w) X.A (.compLoop (.ListComp elt [⟨tg, iter, ifs, 0⟩] scope pos) 0 (.ref it) (.ref s2.heap.objs.size) (compEnvC scope cl (s2.heap.push { cls := .type "list", dict := none, data := .seq ([] : List Value).toArray }).objs.size X.env))
      (fun r s' => r = .ok .next ∧ ∃ D H' m, Value.ref s2.heap.objs.size = .ref D ∧ Inv X pins σ H' s' ∧ s'.heap.Ns (s2.heap.push { cls := .type "list", dict := none, data := .seq ([] : List Value).toArray }).objs.size m ∧ CFree X pins H' (s2.heap.push { cls := .type "list", dict := none, data := .seq ([] : List Value).toArray }).objs.size ∧ Q (.ref D) H')
      { s2 with heap := h₁, toks := s2.toks + ([] : List (Str × Value)).length } := by
    refine comp_loop (fun n s' => ∃ i σ' H', Inv (X.blk scope cl N (s2.heap.push { cls := .type "list", dict := none, data := .seq ([] : List Value).toArray }).objs.size fp pins { s2 with heap := s2.heap.push { cls := .type "list", dict := none, data := .seq ([] : List Value).toArray }, toks := s2.toks } (upd H2 s2.heap.objs.size (.lst []))) [] σ' H' s' ∧
      tn i s'.heap ∧ (∀ b ∈ fp, H' b = none) ∧ W i n σ' H') ?_ m0 ⟨0, σc, _, Ic, st4, fun b hb => (f3 b hb).1, w0⟩
    rintro n s3 ⟨i, σ3, H3, I3', st3, fr3, w3⟩
    rcases turn i n σ3 H3 w3 with ⟨stop, qn⟩ | ⟨go, Nx, hN, step⟩
    · refine thn (T.done (X.blk scope cl N (s2.heap.push { cls := .type "list", dict := none, data := .seq ([] : List Value).toArray }).objs.size fp pins { s2 with heap := s2.heap.push { cls := .type "list", dict := none, data := .seq ([] : List Value).toArray }, toks := s2.toks } (upd H2 s2.heap.objs.size (.lst []))) rfl rfl rfl hc i [] s3 σ3 H3 _ I3' (stat fr3) st3 stop) fun r s4 ⟨hr, I4⟩ => ?_
      subst hr
      obtain ⟨a1, ⟨m, a2⟩, a3⟩ := fin I4
      exact ⟨rfl, _, H3, m, rfl, a1, a2, a3, qn⟩
    · refine thn (T.item (X.blk scope cl N (s2.heap.push { cls := .type "list", dict := none, data := .seq ([] : List Value).toArray }).objs.size fp pins { s2 with heap := s2.heap.push { cls := .type "list", dict := none, data := .seq ([] : List Value).toArray }, toks := s2.toks } (upd H2 s2.heap.objs.size (.lst []))) rfl rfl rfl hc i [] s3 σ3 H3 _ I3' (stat fr3) st3 go) fun r s4 ⟨u, hr, h4⟩ => ?_
      subst hr
      refine thn h4 fun _ s5 ⟨x, H5, I5, r5, y5, st5, fr5⟩ => ?_
      have I5' := I5.pinned (stat fr5) (T.obj _ _ st5)
      refine thn (hg _ _ _ _ _ _ s5 σ3 H5 x u _ I5' r5 (step x H5 y5)) fun _ s6 ⟨σ6, H6, I6, q6⟩ => ?_
      have again : ∀ {σ7 : St} {H7 : Hp} {s7 : Shared}, Inv (X.blk scope cl N (s2.heap.push { cls := .type "list", dict := none, data := .seq ([] : List Value).toArray }).objs.size fp pins { s2 with heap := s2.heap.push { cls := .type "list", dict := none, data := .seq ([] : List Value).toArray }, toks := s2.toks } (upd H2 s2.heap.objs.size (.lst []))) ([] ++ pinsAt fp s5.heap) σ7 H7 s7 → Nx σ7 H7 →
          ∃ m, m < n ∧ ∃ i σ' H', Inv (X.blk scope cl N (s2.heap.push { cls := .type "list", dict := none, data := .seq ([] : List Value).toArray }).objs.size fp pins { s2 with heap := s2.heap.push { cls := .type "list", dict := none, data := .seq ([] : List Value).toArray }, toks := s2.toks } (upd H2 s2.heap.objs.size (.lst []))) [] σ' H' s7 ∧ tn i s7.heap ∧ (∀ b ∈ fp, H' b = none) ∧ W i m σ' H' := fun {σ7 H7 s7} I7 n7 => by
        obtain ⟨m', hm, w7⟩ := hN σ7 H7 n7
        refine ⟨m', hm, i + 1, σ7, H7, I7.unpinned, T.keep _ _ _ st5 fun b hb o e => (I7.pin (b, o) (List.mem_append_right _ (List.mem_append_right _ (mem_pinsAt hb e)))).1, fun b hb => ?_, w7⟩
        obtain ⟨o, e, d⟩ := T.obj _ _ st5 b hb
        exact (I7.pin (b, o) (List.mem_append_right _ (List.mem_append_right _ (mem_pinsAt hb e)))).2.1
      refine thn (ht _ _ _ _ _ _ s6 σ6 H6 _ I6 q6) fun ok s7 ⟨H7, I7, q7⟩ => ?_
      cases ok with
      | false => exact again I7 (by simpa using q7)
      | true =>
        rw [if_pos rfl] at q7 ⊢
        refine thn (he _ _ _ _ _ _ s7 σ6 H7 _ I7 q7) fun y s8 ⟨v, H8, I8, rv, q8⟩ => ?_
        obtain ⟨xs, hD8, hz, n8⟩ := q8
        exact thn (mt_append _ s8 σ6 H8 (.ref s2.heap.objs.size) [v] (.ref s2.heap.objs.size) [y] (fun _ H' => Nx σ6 H') I8 rfl (.cons rv .nil) ⟨_, xs, v, rfl, rfl, hD8, hz, n8⟩) fun _ s9 ⟨_, H9, I9, _, n9⟩ => again I9 n9
  exact codeAny_compStart_list loop (T.self _ 0 _ _ _ st4 loop)
/-- a comprehension as a value -/
theorem pe_lcomp (B : BlkS X scope cl N) (hc : X.calm = true) (hi : PI X tg iter wi)
    (hg : ∀ C fp pins s H, PG (X.blk scope cl N C fp pins s H) tg g) (ht : ∀ C fp pins s H, PTs (X.blk scope cl N C fp pins s H) ifs tt) (he : ∀ C fp pins s H, PE (X.blk scope cl N C fp pins s H) elt te)
    (hs : ∀ x, foldedSetIterable iter X.env x = pure x := by intro _; rfl) : PE X (.ListComp elt [⟨tg, iter, ifs, 0⟩] scope pos) (tLC (FromOuter X scope cl N) wi g tt te) := by
  intro pins s σ H Q I h
  rw [eval_ListComp]
  refine wpAny_comprehension_free (use := none) rfl hs B.clos B.kind B.names (thn (lc_core (pos := pos) (Q := Q) B hc hi hg ht he I h) fun x s1 h1 => thn h1 fun it s2 h2 => thn h2 fun acc s3 h3 => thn h3 fun cenv s4 h4 => ?_)
  refine codeAny_mono h4 fun r s5 h5 => ?_
  obtain ⟨rfl, D, H', m, rfl, I5, hn, cf, q⟩ := h5
  exact ⟨m, hn, fun h' hs' => ⟨.ref D, H', I5.turned (t' := s5.toks) (fun b o hb e => hs'.extBut b o hb e) cf.free cf.neL (.inr cf.young) cf.cells cf.pins, rfl, q⟩⟩
/-- name = [..], the name a plain local one -/
theorem ps_setLC {i : Nat} {x : Str} {pos' spos : Pos} (hN : X.N.Nodup) (hix : X.N[i]? = some x) (hx : X.env.scope.names.lookup x = some .local)
    (hsw : swapsWith (.ListComp elt [⟨tg, iter, ifs, 0⟩] scope pos) (some (.Name x pos')) spos.line X.env = pure true) (B : BlkS X scope cl N) (hc : X.calm = true) (hi : PI X tg iter wi)
    (hg : ∀ C fp pins s H, PG (X.blk scope cl N C fp pins s H) tg g) (ht : ∀ C fp pins s H, PTs (X.blk scope cl N C fp pins s H) ifs tt) (he : ∀ C fp pins s H, PE (X.blk scope cl N C fp pins s H) elt te)
    (hs : ∀ x, foldedSetIterable iter X.env x = pure x := by intro _; rfl) : PS X (.Assign [.Name x pos'] (.ListComp elt [⟨tg, iter, ifs, 0⟩] scope pos) spos) (tAsg (tLC (FromOuter X scope cl N) wi g tt te) (gName i)) := by
  intro pins s σ H D I h
  rw [exec_Assign_Name_used _ _ _ _ hsw]
  refine wpAny_bind (wpAny_standAt (wpAny_bind ?_))
  show wpAny _ _ (do let _ ← comprehension (.ListComp elt [⟨tg, iter, ifs, 0⟩] scope pos) scope X.env _ (newList []) false (eval iter X.env) (some (assign (.Name x pos') X.env))) _ _ s
  refine wpAny_bind (thn (wpAny_comprehension_free (use := some (assign (.Name x pos') X.env)) (Q := fun _ s' => SP X pins D .next s') rfl hs B.clos B.kind B.names
    (thn (lc_core (pos := pos) (Q := fun v H' => gName i v σ H' D.nx) B hc hi hg ht he I h) fun xv s1 h1 => thn h1 fun it s2 h2 => thn h2 fun acc s3 h3 => thn h3 fun cenv s4 h4 => ?_)) fun _ s' q => wpAny_pure (wpAny_pure q))
  refine codeAny_mono h4 fun r s5 h5 => ?_
  obtain ⟨rfl, Da, H', m, rfl, I5, hn, cf, q⟩ := h5
  show wpAny _ _ (assign (.Name x pos') X.env (.ref Da)) _ _ s5
  refine wpAny_assign_Name (store_ok2 I5 hN hix (.inl hx) (v := .ref Da) rfl (fun s6 I6 hch => ?_) (.inr hx))
  obtain ⟨a, sb, ha⟩ := hch
  have haC : a ≠ cenv.locals := by
    rcases ha with rfl | ha
    · exact cf.neL.symm
    · exact cf.cells _ _ ha
  refine ⟨m, hn.sameBut sb haC.symm, fun h' hs' => ?_⟩
  exact ⟨_, H', I6.turned (t' := s6.toks) (fun b o hb e => hs'.extBut b o hb e) cf.free cf.neL (.inr cf.young) cf.cells cf.pins, q⟩
end
/-! rules whose reading names K itself, for a block -/
theorem ix_tupK {X : Cx} (K : PySem.W.Frag) (h : X.K = K) : IxR X (rIxT K) := h ▸ ix_tup
theorem ix_listK {X : Cx} (K : PySem.W.Frag) (h : X.K = K) : IxR X (rIxL K) := h ▸ ix_list
theorem nd_one (x : Str) : [x].Nodup := by simp
theorem nd_two {x y : Str} (h : x ≠ y) : [x, y].Nodup := by simp [h]
/-- a block that sees no name around it -/
theorem lookup_mem : ∀ {l : List (Str × NameKind)} {x : Str} {k : NameKind}, l.lookup x = some k → (x, k) ∈ l
  | [], _, _, h => by simp at h
  | (y, j) :: r, x, k, h => by
    rw [List.lookup_cons] at h
    cases e : x == y with
    | true =>
      rw [e] at h
      cases h
      have := eq_of_beq e
      subst this
      exact List.mem_cons_self
    | false =>
      rw [e] at h
      exact List.mem_cons_of_mem _ (lookup_mem h)
theorem BlkS.plain {X : Cx} {scope : Scope} {N : List Str} (kind : scope.kind = .function) (h : ∀ y ∈ scope.names, y.2 ≠ .free ∧ y.2 ≠ .cell) (names : ∀ x ∈ scope.names, x.2 = .local → scope.names.lookup x.1 = some .local) : BlkS X scope [] N where
  clos := closureFor_none fun x hx => (h x hx).1
  kind := kind
  nocell := fun y hy => (h y hy).2
  names := names
  sub := fun x c e => by simp at e
  has := fun x hx => by
    have e : (relabel scope X.env).names = scope.names := by
      unfold relabel
      exact map_eq_self fun y hy => by
        have := (h y hy).1
        obtain ⟨n, k⟩ := y
        have hk : (k == NameKind.free) = false := by simpa using this
        simp [hk]
    rw [e] at hx
    rcases hx with hx | hx
    · exact absurd rfl (h _ (lookup_mem hx)).2
    · exact absurd rfl (h _ (lookup_mem hx)).1
/-! ### the forms one uses -/
/-- over a list that the block leaves as it is -/
theorem lc_list {K : PySem.W.Frag} {a D : Addr} {xs : List V} {g : TG} {tt : TT} {te : TE} {σ : St} {H : Hp} {Pq : Hp → Prop} (Pv : Nat → St → Hp → Prop) (h0 : Pv 0 σ H) (hl : ∀ i σ H, i ≤ xs.length → Pv i σ H → SqL K H a xs)
    (hs : ∀ i x σ H, xs[i]? = some x → Pv i σ H → g x σ H fun σ3 H3 => tt σ3 H3 fun b H4 => if b = true then te σ3 H4 fun y H5 => ∃ ys, H5 D = some (.lst ys) ∧ ys.length < sizeLine ∧ Pv (i + 1) σ3 (upd H5 D (.lst (ys ++ [y]))) else Pv (i + 1) σ3 H4)
    (hd : ∀ σ H, Pv xs.length σ H → Pq H) :
    ∃ W : Nat → Nat → St → Hp → Prop, (∃ m, W 0 m σ H) ∧ ∀ i m σ' H', W i m σ' H' → ((Itl K a).stop i H' ∧ Pq H') ∨ ((Itl K a).go i H' ∧ ∃ N : St → Hp → Prop, (∀ σ2 H2, N σ2 H2 → ∃ m', m' < m ∧ W (i + 1) m' σ2 H2) ∧
      ∀ x H2, (Itl K a).yld i H' x H2 → g x σ' H2 fun σ3 H3 => tt σ3 H3 fun b H4 => if b = true then te σ3 H4 fun y H5 => ∃ xs, H5 D = some (.lst xs) ∧ xs.length < sizeLine ∧ N σ3 (upd H5 D (.lst (xs ++ [y]))) else N σ3 H4) := by
  refine ⟨fun i m σ H => m = xs.length - i ∧ i ≤ xs.length ∧ Pv i σ H, ⟨xs.length, by simp, Nat.zero_le _, h0⟩, ?_⟩
  rintro i m σ H ⟨rfl, hi, p⟩
  have q := hl i σ H hi p
  by_cases hlt : i < xs.length
  · refine .inr ⟨⟨xs, xs[i], q, by simp [hlt]⟩, Pv (i + 1), fun σ' H' p' => ⟨xs.length - (i + 1), by omega, rfl, hlt, p'⟩, fun x H' y => ?_⟩
    obtain ⟨e, y⟩ := y
    subst e
    exact hs i x σ _ (y xs q) p
  · have e : i = xs.length := by omega
    subst e
    exact .inl ⟨⟨xs, q, Nat.le_refl _⟩, hd σ H p⟩
theorem lc_range {lo : Int} {n : Nat} {D : Addr} {g : TG} {tt : TT} {te : TE} {σ : St} {H : Hp} {Pq : Hp → Prop} (Pv : Nat → St → Hp → Prop) (h0 : Pv 0 σ H)
    (hs : ∀ i σ H, i < n → Pv i σ H → g (.int (lo + i)) σ H fun σ3 H3 => tt σ3 H3 fun b H4 => if b = true then te σ3 H4 fun y H5 => ∃ ys, H5 D = some (.lst ys) ∧ ys.length < sizeLine ∧ Pv (i + 1) σ3 (upd H5 D (.lst (ys ++ [y]))) else Pv (i + 1) σ3 H4)
    (hd : ∀ σ H, Pv n σ H → Pq H) :
    ∃ W : Nat → Nat → St → Hp → Prop, (∃ m, W 0 m σ H) ∧ ∀ i m σ' H', W i m σ' H' → ((Itr lo n).stop i H' ∧ Pq H') ∨ ((Itr lo n).go i H' ∧ ∃ N : St → Hp → Prop, (∀ σ2 H2, N σ2 H2 → ∃ m', m' < m ∧ W (i + 1) m' σ2 H2) ∧
      ∀ x H2, (Itr lo n).yld i H' x H2 → g x σ' H2 fun σ3 H3 => tt σ3 H3 fun b H4 => if b = true then te σ3 H4 fun y H5 => ∃ xs, H5 D = some (.lst xs) ∧ xs.length < sizeLine ∧ N σ3 (upd H5 D (.lst (xs ++ [y]))) else N σ3 H4) := by
  refine ⟨fun i m σ H => m = n - i ∧ i ≤ n ∧ Pv i σ H, ⟨n, by simp, Nat.zero_le _, h0⟩, ?_⟩
  rintro i m σ H ⟨rfl, hi, p⟩
  by_cases hlt : i < n
  · refine .inr ⟨hlt, Pv (i + 1), fun σ' H' p' => ⟨n - (i + 1), by omega, rfl, hlt, p'⟩, fun x H' y => ?_⟩
    obtain ⟨e, y⟩ := y
    subst e; subst y
    exact hs i σ _ hlt p
  · have e : i = n := by omega
    subst e
    exact .inl ⟨Nat.le_refl _, hd σ H p⟩
end L2
namespace L2
open PySem PySem.Spec PyProof.Rows
/-! LOOPS over dicts (keys, items), over enumerate; dict(d) -/
theorem KV.get {κ : Type} : ∀ {kvs : List (κ × V)} {vs : List (κ × Value)} {i : Nat} {p : κ × V}, KV kvs vs → kvs[i]? = some p → ∃ q, vs[i]? = some q ∧ p.1 = q.1 ∧ RelV p.2 q.2
  | _, _, i, p, .nil, e => by simp at e
  | _, _, 0, p, .cons h r, e => by cases e; exact ⟨_, rfl, h.1, h.2⟩
  | _, _, i + 1, p, .cons h r, e => KV.get (i := i) r (by simpa using e)
theorem rel_of_key {P : Program} {w : World} {k : Key} {u : Value} (h : (mixKind P w).is k u = true) : RelV (kV k) u := by
  rcases keyIs_shape (show keyIs k u = true from h) with ⟨i, t, rfl, rfl⟩ | ⟨x, t, rfl, rfl⟩
  · exact ⟨t, rfl⟩
  · exact ⟨t, rfl⟩
section
variable {X : Cx} {pins : List (Addr × Obj)} {σ : St} {H : Hp} {s : Shared}
end
/-! ### for k in d -/
def Itk (d : Addr) (kvs : List (Key × V)) (o : Obj) : It :=
  ⟨fun i H => i < kvs.length ∧ H d = some (.frz o (.dK kvs)), fun i H x H' => H' = H ∧ ∃ kv, kvs[i]? = some kv ∧ x = kV kv.1, fun i H => kvs.length ≤ i ∧ H d = some (.frz o (.dK kvs))⟩
def iKeys (tl : TE) : TI := fun σ H R => tl σ H fun x H1 => ∃ d kvs, x = .ref d ∧ H1 d = some (.dK kvs) ∧ ∀ o, R (Itk d kvs o) (upd H1 d (.frz o (.dK kvs)))
section
variable {X : Cx} {tg : Expr}
end
/-! ### for k, v in d.items() -/
def Iti (d : Addr) (kvs : List (Key × V)) (o : Obj) : It :=
  ⟨fun i H => i < kvs.length ∧ H d = some (.frz o (.dK kvs)), fun i H x H' => ∃ kv p, kvs[i]? = some kv ∧ H p = none ∧ x = .ref p ∧ H' = upd H p (.tup [kV kv.1, kv.2]), fun i H => kvs.length ≤ i ∧ H d = some (.frz o (.dK kvs))⟩
def iItems (tl : TE) : TI := fun σ H R => tl σ H fun x H1 => ∃ d kvs, x = .ref d ∧ H1 d = some (.dK kvs) ∧ ∀ o, R (Iti d kvs o) (upd H1 d (.frz o (.dK kvs)))
section
variable {X : Cx} {elts : List Expr} {x1 : Nat} {tpos : Pos}
end
/-! ### dict(d) -/
end L2
namespace L2
open PySem PySem.Spec PyProof.Rows
/-! sorted of a list that rises already, of any length: one run, nothing is moved -/
theorem minRun_le : ∀ (f n r : Nat), r ≤ 1 → minRun' f n r ≤ n + r
  | 0, n, r, _ => Nat.le_refl _
  | f + 1, n, r, hr => by
    rw [minRun'_succ]
    split
    · exact Nat.le_refl _
    · have h1 : max r (n % 2) ≤ 1 := by omega
      have := minRun_le f (n / 2) (max r (n % 2)) h1
      omega
section
variable {pg : Program} {wo : World} {Ar : Around} {Ex : Value → Shared → Prop} {sh : Shared} {ks : Array Keyed}
theorem asc_count {st : SortSt} {Qa : Option Nat → SortSt → Prop} (ik : IntKeys ks) (one : 1 ≤ ks.size) (bs : SBase ks st) (up : SortedTo (arrOf st) ks.size) (hq : Qa (some ks.size) st) : wpS (model pg wo) Ar Ex sh (countRun' 0 ks.size) Qa st := by
  rw [countRun0_eq]
  refine wpS_bind (wpS_ascLoop ik (Nat.le_refl _) (Nat.le_refl 1) one bs (fun i j hij hj => up i j hij (by omega)) fun m m1 m2 _ om => ?_)
  have em : m = ks.size := by
    rcases om with z | z
    · exact z
    · rcases Nat.lt_or_ge m ks.size with y | y
      · exact absurd z (Int.not_lt.mpr (up (m - 1) m (by omega) y))
      · omega
  subst em
  dsimp only
  rw [if_pos (by simp)]
  exact wpS_pure hq
theorem asc_runs {st : SortSt} {Qa : Unit → SortSt → Prop} (ik : IntKeys ks) (bs : SBase ks st) (two : 2 ≤ ks.size) (up : SortedTo (arrOf st) ks.size) (hq : ∀ z, (arrOf z).Perm ks → failedOf z = none → SortedTo (arrOf z) ks.size → Qa () z) :
    wpS (model pg wo) Ar Ex sh sortRuns' Qa st := by
  rw [sortRuns'_eq]
  refine wpS_bind (wpS_get ?_)
  dsimp only
  have mr := minRun_le ks.size ks.size 0 (by decide)
  simp only [bs.size]
  refine wpS_bind (wpS_mono (wpS_forRange (I := fun x c z => (x = 0 ∧ c = (none, 0) ∧ z = st) ∨ (1 ≤ x ∧ c = (none, ks.size) ∧ SDone ks z)) (Q := fun c z => c = (none, ks.size) ∧ SDone ks z) ?stp ?fn (.inl ⟨rfl, rfl, rfl⟩)) ?pst)
  case fn =>
    rintro c z (⟨x0, _, _⟩ | ⟨_, ec, dn⟩)
    · omega
    · exact ⟨ec, dn⟩
  case stp =>
    rintro x c z _ xl (⟨rfl, rfl, rfl⟩ | ⟨_, rfl, dn⟩)
    · dsimp only
      rw [if_neg (by omega)]
      simp only [Nat.sub_zero, Nat.zero_add]
      refine wpS_bind (asc_count ik (by omega) bs up ?_)
      dsimp only
      rw [if_neg (by omega)]
      refine wpS_bind (wpS_get ?_)
      have nb : (pendingOf z).back? = none := by rw [bs.pend]; rfl
      rw [nb]
      dsimp only
      exact wpS_bind (wpS_modify (wpS_pure (.inr ⟨by omega, rfl, bs.done up⟩)))
    · dsimp only
      rw [if_pos (Nat.le_refl _)]
      exact wpS_pure ⟨rfl, dn⟩
  case pst =>
    rintro c z ⟨rfl, dn⟩
    dsimp only
    refine wpS_bind (wpS_mono (wpS_forRange (I := fun _ c y => y = z ∧ c = (none, ())) (Q := fun c y => y = z ∧ c = (none, ())) ?_ (fun _ _ k => k) ⟨rfl, rfl⟩) ?_)
    · rintro x c y _ _ ⟨rfl, rfl⟩
      refine wpS_bind (wpS_get ?_)
      rw [if_pos (by rw [dn.2.2.1]; exact Nat.le_refl 1)]
      exact wpS_pure ⟨rfl, rfl⟩
    · rintro c y ⟨rfl, rfl⟩
      exact wpS_pure (hq _ dn.1 dn.2.1 dn.2.2.2)
theorem keys_at : ∀ {us : List Value} {ms : List Int}, IntsAre us ms → ∀ i, (match us[i]? with | some u => numOf u | none => 0) = ms.getD i 0
  | _, _, .nil, i => by simp
  | _, _, .cons n t r, 0 => rfl
  | _, _, .cons n t r, i + 1 => by
    have := keys_at r i
    simpa using this
theorem K_pairs {us : List Value} {ms : List Int} (ia : IntsAre us ms) (i : Nat) : PyProof.Rows.K (pairsOf us) i = ms.getD i 0 := by
  rw [← keys_at ia i]
  unfold PyProof.Rows.K
  have e : (pairsOf us)[i]? = (us.zip us)[i]? := by rw [← pairsOf_toList]; simp
  rw [e]
  cases h : us[i]? with
  | none =>
    have z : (us.zip us)[i]? = none := by
      rw [List.getElem?_eq_none_iff] at h ⊢
      rw [List.length_zip]
      omega
    rw [z]
  | some u =>
    rw [List.getElem?_zip_eq_some.mpr (show us[i]? = some (u, u).1 ∧ us[i]? = some (u, u).2 from ⟨h, h⟩)]
theorem up_pairs {us : List Value} {ms : List Int} (ia : IntsAre us ms) (up : ms.Pairwise (· ≤ ·)) (le : us.length = ms.length) : SortedTo (pairsOf us) (pairsOf us).size := by
  intro i j hij hj
  rw [pairsOf_size] at hj
  rw [K_pairs ia, K_pairs ia, List.getD_eq_getElem?_getD, List.getD_eq_getElem?_getD, List.getElem?_eq_getElem (by omega : i < ms.length), List.getElem?_eq_getElem (by omega : j < ms.length)]
  rcases Nat.lt_or_ge i j with z | z
  · exact (List.pairwise_iff_getElem.mp up) i j (by omega) (by omega) z
  · have e : i = j := by omega
    subst e
    exact Int.le_refl _
/-- list.sort of such a list -/
theorem asc_tree {a : Addr} {us : List Value} {ms : List Int} {n : Nat} {Pf : PySem.Fin → Shared → Prop} (ho : sh.heap.get? a = some (seqObj "list" us.toArray n)) (ia : IntsAre us ms) (up : ms.Pairwise (· ≤ ·)) (le : us.length = ms.length) (two : 2 ≤ us.length) (big : us.length ≤ 1000)
    (hq : ∀ (out : Array Value) (ms' : List Int), IntsAre out.toList ms' → ms'.Perm ms → ms'.Pairwise (· ≤ ·) → Pf (.done (.ret .none)) { sh with heap := sortedHeap sh.heap a us out }) :
    wpAny (model pg wo) Ar (Builtin.«list.sort» ⟨[.ref a], []⟩) Pf Ex sh := by
  rw [list_sort_plain]
  have la : a < sh.heap.objs.size := Heap.lt_size ho
  refine wpAny_bind (listItems_at ho rfl (wpAny_bind (listUpdate_at ho rfl ?_ (hsz2 := by simp))))
  obtain ⟨n1, o1⟩ : ∃ n1, (sh.heap.update a (Obj.mapSeq fun _ => #[])).get? a = some (seqObj "list" #[] n1) := ⟨_, get?_update_seq ho (fun _ => #[])⟩
  refine wpAny_bind (seqEpoch_at o1 rfl (wpAny_bind (wpAny_newTuple (wpAny_bind (wpAny_newList (wpAny_holding ?_))))))
  have o6 : (((sh.heap.update a (Obj.mapSeq fun _ => #[])).push (seqObj "tuple" us.toArray 0)).push (seqObj "list" #[] 0)).get? a = some (seqObj "list" #[] n1) := by
    rw [Heap.get?_push_ne _ _ _ (by rw [size_push', Heap.size_update]; exact Nat.ne_of_lt (Nat.lt_succ_of_lt la)), Heap.get?_push_ne _ _ _ (by rw [Heap.size_update]; exact Nat.ne_of_lt la)]
    exact o1
  show wpAny (model pg wo) Ar _ Pf Ex { sh with heap := ((sh.heap.update a (Obj.mapSeq fun _ => #[])).push (seqObj "tuple" us.toArray 0)).push (seqObj "list" #[] 0) }
  dsimp only
  have nt : ¬ us.toArray.size < 2 := by rw [List.size_toArray]; omega
  rw [if_neg nt, if_neg nt]
  obtain ⟨x, y, r, rfl⟩ : ∃ x y r, us = x :: y :: r := by
    match us, two with
    | x :: y :: r, _ => exact ⟨x, y, r, rfl⟩
  rw [keyKind_ints ia]
  refine wpAny_bind (wpAny_pure (wpAny_bind (wpAny_mono (asc_runs (ks := pairsOf (x :: y :: r)) (st := SortSt.mk' oneType' ((x :: y :: r).toArray.zip (x :: y :: r).toArray) #[] 7 none)
    (Qa := fun _ z => (arrOf z).Perm (pairsOf (x :: y :: r)) ∧ failedOf z = none ∧ SortedTo (arrOf z) (pairsOf (x :: y :: r)).size)
    ia.intKeys ⟨Array.Perm.refl _, rfl, rfl, rfl⟩ (by rw [pairsOf_size]; exact two) (up_pairs ia up le) fun z b1 b2 b3 => ⟨b1, b2, b3⟩) ?_ fun _ _ e => e)))
  rintro ⟨⟨⟩, z⟩ s2 ⟨rfl, pm, fl, so⟩
  dsimp only
  have sz : ((arrOf z).map (·.2)).size ≤ sizeLine + 1 := by
    rw [Array.size_map, pm.size_eq, pairsOf_size, sizeLine_eq]
    omega
  refine wpAny_bind (seqEpoch_at o6 rfl (wpAny_bind (listUpdate_at o6 rfl ?_ (hsz2 := sz))))
  rw [fl]
  simp only [bne_self_eq_false, Bool.false_eq_true, if_false]
  obtain ⟨ms', c1, c2, c3⟩ := sorted_out ia pm so
  exact wpAny_pure (hq _ ms' c1 c2 c3)
theorem asc_sorted {l : Addr} {us : List Value} {ms : List Int} {Qv : Value → Shared → Prop} (hl : sh.heap.IsList l us.toArray) (ia : IntsAre us ms) (up : ms.Pairwise (· ≤ ·)) (le : us.length = ms.length) (two : 2 ≤ us.length) (big : us.length ≤ 1000)
    (hq : ∀ (out : Array Value) (ms' : List Int), IntsAre out.toList ms' → ms'.Perm ms → ms'.Pairwise (· ≤ ·) → Qv (.ref (sh.heap.objs.size + 1)) { sh with heap := sortedAll sh.heap us out }) :
    wpAny (model pg wo) Ar (call (.builtin "sorted") [.ref l]) Qv Ex sh := by
  have bg : us.length ≤ sizeLine := by rw [sizeLine_eq]; omega
  refine Calls.call_function_entry kind_sorted plain_sorted entry_sorted (args_sorted1 (.ref l)) ?_
  unfold Builtin.«sorted»
  refine wpAny_bind (m := checkCount "sorted" 1 1 _) (wpAny_pure (wpAny_bind (collect_list hl (wpAny_bind (wpAny_newList ?_ (by exact bg))) bg)))
  have sz : ((sh.heap.push (seqObj "list" #[] 0)).update sh.heap.objs.size (Obj.mapSeq (· ++ us.toArray))).objs.size = sh.heap.objs.size + 1 := by
    rw [Heap.size_update, size_push']
  have oL : (((sh.heap.push (seqObj "list" #[] 0)).update sh.heap.objs.size (Obj.mapSeq (· ++ us.toArray))).push (seqObj "list" us.toArray 0)).get? (sh.heap.objs.size + 1) = some (seqObj "list" us.toArray 0) := by
    rw [← sz]; exact Heap.get?_push_size _ rfl
  show wpAny _ _ _ _ _ { sh with heap := ((sh.heap.push (seqObj "list" #[] 0)).update sh.heap.objs.size (Obj.mapSeq (· ++ us.toArray))).push (seqObj "list" us.toArray 0) }
  rw [sz]
  refine wpAny_bind (wpAny_holding (wpAny_call_entry slot_list_sort ⟨_, oL, rfl⟩ entry_list_sort (asc_tree oL ia up le two big fun out ms' c1 c2 c3 => ⟨_, rfl, ?_⟩) (args_list_sort _)))
  exact wpAny_pure ⟨_, rfl, hq out ms' c1 c2 c3⟩
end
section
variable {X : Cx}
/-- sorted: fewer than 64, or rising already -/
theorem call_sorted2 : CallR X (.builtin "sorted") (fun xs H Q => ∃ (p : Addr) (ns : List Int), xs = [.ref p] ∧ SqL X.K H p (ns.map V.int) ∧ (ns.length < 64 ∨ (ns.Pairwise (· ≤ ·) ∧ ns.length ≤ 1000)) ∧
    ∀ (l : Addr) (ns' : List Int), H l = none → ns'.Perm ns → ns'.Pairwise (· ≤ ·) → Q (.ref l) (upd H l (.lst (ns'.map V.int)))) := by
  intro pins s σ H xs us Q I r h
  obtain ⟨p, ns, e, hS, hc, k⟩ := h
  by_cases h64 : ns.length < 64
  · exact call_sorted pins s σ H xs us Q I r ⟨p, ns, e, hS, h64, k⟩
  subst e
  obtain ⟨up, hb⟩ := hc.resolve_left h64
  obtain ⟨u, rfl, rx⟩ := vals1 r
  cases rx
  obtain ⟨its, rI, pl, hz⟩ := I.list hS
  have hI : IntsAre its ns := intsAre_of rI
  have hlen := rI.length
  rw [List.length_map] at hlen
  refine asc_sorted pl.isList hI up hlen.symm (by omega) (by omega) fun out ns' a1 a2 a3 => ?_
  obtain ⟨e, he⟩ := sortedAll_at s.heap its out
  have hl' : ns'.length = ns.length := a2.length_eq
  have hz' : (ns'.map V.int).length ≤ sizeLine := by rw [List.length_map, hl']; exact Nat.le_of_lt (small1000 (by omega))
  have he' : (sortedAll s.heap its out).get? (s.heap.objs.size + 1) = some { cls := .type "list", data := .seq out.toList.toArray e } := by rw [Array.toArray_toList]; exact he
  exact ⟨.ref (s.heap.objs.size + 1), _, I.laid (t' := s.toks) (fun b o e => sortedAll_old e) (Nat.le_succ _) (show ObjOk X.prog X.w _ _ _ (.lst (ns'.map V.int)) from ⟨hz', out.toList, e, vals_ints a1, he'⟩), rfl, k _ _ (I.hok.fresh (Nat.le_succ _)) a2 a3⟩
end
/-! ### list(range(n)) -/
def rngI (n : Nat) : List Int := (List.range' 0 n).map fun i => ((i : Nat) : Int)
theorem vals_from : ∀ (us : List Value) (k : Nat), (∀ (i : Nat) (v : Value), us[i]? = some v → ∃ t : Tok, v = Value.int (((k + i : Nat) : Int)) t) → Vals (((List.range' k us.length).map fun i => ((i : Nat) : Int)).map V.int) us
  | [], k, _ => .nil
  | u :: r, k, h => by
    obtain ⟨t, e⟩ := h 0 u rfl
    refine .cons ⟨t, by simpa using e⟩ (vals_from r (k + 1) fun i v hv => ?_)
    obtain ⟨t', e'⟩ := h (i + 1) v (by simpa using hv)
    refine ⟨t', ?_⟩
    rw [e']
    congr 1
    omega
section
variable {X : Cx}
theorem pe_listRange {a : Expr} {ta : TA} {p p2 pos pos2 : Pos} (hgL : Gl X "list") (hmL : X.mg "list" = none) (hg : Gl X "range") (hm : X.mg "range" = none) (hc : X.calm = true) (ha : PA X [a] ta) (hs : starEach [a] X.env = [(false, eval a X.env)] := by rfl)
    (hs2 : starEach [.Call (.Name "range" p2) [a] [] pos2] X.env = [(false, eval (.Call (.Name "range" p2) [a] [] pos2) X.env)] := by rfl) :
    PE X (.Call (.Name "list" p) [.Call (.Name "range" p2) [a] [] pos2] [] pos) (fun σ H Q => ta σ H fun vs H1 => ∃ j : Int, vs = [.int j] ∧ 0 ≤ j ∧ j ≤ 900 ∧ ∀ l, H1 l = none → Q (.ref l) (upd H1 l (.lst ((rngI j.toNat).map V.int)))) := by
  intro pins s σ H Q I h
  refine Call_ (ld_blt I hgL hmL bb_list (PyProof.Rows.callWith_type1 ?_ hs2 rfl))
  rw [hs2]
  show wpAny _ _ (spliced [(false, eval (.Call (.Name "range" p2) [a] [] pos2) X.env)]) _ _ s
  refine Calls.spliced_cons (Call_ (ld_blt I hg hm boot_range (PyProof.Rows.callWith_type1 (thn (ha pos2 pins s σ H _ I h) fun us s1 ⟨vs, H1, I1, r1, q1⟩ => ?_) hs rfl)))
  obtain ⟨j, e, j0, j1, q⟩ := q1
  subst e
  cases r1 with
  | cons r rr =>
    cases rr
    obtain ⟨t, rfl⟩ := r
    refine call_range_1 (Calls.spliced_nil ?_)
    have I2 : Inv X pins σ H1 { s1 with heap := s1.heap.push { cls := .type "range", data := .fields #[.int 0 s1.toks, .int j t, .int 1 (s1.toks + 1)] }, toks := s1.toks + 1 + 1 } := I1.kept fun b o z => Heap.get?_push_of_some _ z
    refine call_list_range (n := j.toNat) (I.ok.hd hc) (IsRange.new ..) (small_one (by decide) (by decide) (by omega) (by omega)) (by rw [rangeSize_one]; split <;> omega) (by omega) fun h' tk acc c' kp at_ it => ?_
    have hv : Vals ((rngI j.toNat).map V.int) acc.toList := by
      have := vals_from acc.toList 0 fun i v hi => by
        obtain ⟨t', e'⟩ := it.2 i v (by simpa using hi)
        refine ⟨t', ?_⟩
        rw [e']
        congr 1
        omega
      rw [Array.length_toList, it.1] at this
      exact this
    refine ⟨.ref _, _, I2.laid (t' := tk) (fun b o z => kp b o z) (Nat.le_refl _) (show ObjOk X.prog X.w _ _ _ (.lst ((rngI j.toNat).map V.int)) from ⟨?_, acc.toList, c', hv, by rw [Array.toArray_toList]; exact at_⟩), rfl, q _ (I2.hok.fresh (Nat.le_refl _))⟩
    refine Nat.le_of_lt (small1000 ?_)
    unfold rngI
    simp only [List.length_map, List.length_range']
    omega
end
end L2
namespace Lp
/-- a row and its opened links -/
structure RowOk (links : Int) (os : List Int) (most : Nat) : Prop where
  lo : 1 ≤ links
  hi : links ≤ 10 ^ 30
  inc : os.Pairwise (· < ·)
  rng : ∀ o ∈ os, 0 ≤ o ∧ o < links
  len : os.length ≤ most

theorem RowOk.mono {links : Int} {os : List Int} {m n : Nat} (h : RowOk links os m) (hn : m ≤ n) : RowOk links os n :=
  ⟨h.lo, h.hi, h.inc, h.rng, Nat.le_trans h.len hn⟩

/-- a loop's fold, one turn on -/
theorem fold_take {α β : Type} (f : β → α → β) (b : β) {xs : List α} {i : Nat} {x : α} (h : xs[i]? = some x) :
    (xs.take (i + 1)).foldl f b = f ((xs.take i).foldl f b) x := by
  rw [List.take_add_one, h, List.foldl_append]
  rfl


/-! ### pieces -/
def stepP (st : List (Int × Int) × Int) (l : Int) : List (Int × Int) × Int :=
  ((st.1 ++ if st.2 < l then [(st.2, l - st.2)] else []) ++ [(l, 1)], l + 1)
def piecesP (links : Int) (os : List Int) : List (Int × Int) :=
  (os.foldl stepP ([], 0)).1 ++ if (os.foldl stepP ([], 0)).2 < links then [((os.foldl stepP ([], 0)).2, links - (os.foldl stepP ([], 0)).2)] else []
def stepL (links : Int) (st : List (Int × Int) × Int) (l : Int) : List (Int × Int) × Int :=
  ((st.1 ++ if st.2 < l then [(st.2, l - st.2)] else []) ++ (if l < links then [(l, 1)] else []), l + 1)
def piecesL (links : Int) (os : List Int) : List (Int × Int) := ((os ++ [links]).foldl (stepL links) ([], 0)).1


theorem stepP_len (st : List (Int × Int) × Int) (l : Int) : (stepP st l).1.length ≤ st.1.length + 2 := by
  unfold stepP
  simp only [List.length_append, List.length_cons, List.length_nil]
  split <;> simp
theorem foldP_len : ∀ (os : List Int) (st : List (Int × Int) × Int), (os.foldl stepP st).1.length ≤ st.1.length + 2 * os.length
  | [], st => by simp
  | o :: r, st => by
    have := foldP_len r (stepP st o)
    have := stepP_len st o
    rw [List.foldl_cons, List.length_cons]
    omega
theorem piecesP_len (links : Int) (os : List Int) : (piecesP links os).length ≤ 2 * os.length + 1 := by
  have := foldP_len os ([], 0)
  unfold piecesP
  rw [List.length_append]
  simp only [List.length_nil] at this
  split <;> simp <;> omega

/-- sorted and without doubles: rising -/
theorem rising_of : ∀ {xs : List Int}, xs.Pairwise (· ≤ ·) → xs.Nodup → xs.Pairwise (· < ·)
  | [], _, _ => List.Pairwise.nil
  | x :: r, p, n => by
    obtain ⟨h1, h2⟩ := List.pairwise_cons.mp p
    obtain ⟨n1, n2⟩ := List.nodup_cons.mp n
    refine List.pairwise_cons.mpr ⟨fun y hy => ?_, rising_of h2 n2⟩
    have := h1 y hy
    have : x ≠ y := fun e => n1 (e ▸ hy)
    omega
/-- what _law_row_by gathers, ahead of the sort -/
structure Drawn (links : Int) (os : List Int) (i : Nat) : Prop where
  nd : os.Nodup
  rng : ∀ o ∈ os, 0 ≤ o ∧ o < links
  len : os.length ≤ i
theorem Drawn.skip {links : Int} {os : List Int} {i : Nat} (h : Drawn links os i) : Drawn links os (i + 1) := ⟨h.nd, h.rng, Nat.le_succ_of_le h.len⟩
theorem Drawn.more {links : Int} {os : List Int} {i : Nat} {x : Int} (h : Drawn links os i) (h0 : 0 ≤ x) (h1 : x < links) (hn : ¬ x ∈ os) : Drawn links (os ++ [x]) (i + 1) := by
  refine ⟨?_, ?_, ?_⟩
  · rw [List.nodup_append]
    refine ⟨h.nd, by simp, ?_⟩
    intro a ha b hb e
    rw [List.mem_singleton] at hb
    subst hb; subst e
    exact hn ha
  · intro o ho
    rcases List.mem_append.mp ho with ho | ho
    · exact h.rng o ho
    · rw [List.mem_singleton] at ho; subst ho; exact ⟨h0, h1⟩
  · rw [List.length_append, List.length_singleton]
    exact Nat.succ_le_succ h.len
theorem Drawn.row {links : Int} {os os' : List Int} {m : Nat} (h : Drawn links os m) (hl : 1 ≤ links) (hh : links ≤ 10 ^ 30) (p : os'.Perm os) (s : os'.Pairwise (· ≤ ·)) : RowOk links os' m :=
  ⟨hl, hh, rising_of s (p.nodup_iff.mpr h.nd), fun o ho => h.rng o (p.mem_iff.mp ho), by rw [p.length_eq]; exact h.len⟩
end Lp
namespace Lp
/-! ### in how many ways some of xs come to t -/
def W : List Int → Int → Int
  | [], t => if t = 0 then 1 else 0
  | x :: r, t => W r t + W r (t - x)
theorem W_nil (t : Int) : W [] t = if t = 0 then 1 else 0 := rfl
theorem W_cons (x : Int) (r : List Int) (t : Int) : W (x :: r) t = W r t + W r (t - x) := rfl
theorem W_nonneg : ∀ (xs : List Int) (t : Int), 0 ≤ W xs t
  | [], t => by rw [W_nil]; split <;> decide
  | x :: r, t => by rw [W_cons]; have := W_nonneg r t; have := W_nonneg r (t - x); omega
theorem W_snoc (x : Int) : ∀ (xs : List Int) (t : Int), W (xs ++ [x]) t = W xs t + W xs (t - x)
  | [], t => rfl
  | y :: r, t => by
    rw [List.cons_append, W_cons, W_cons, W_cons, W_snoc x r t, W_snoc x r (t - y)]
    have e : t - y - x = t - x - y := by omega
    rw [e]; omega
/-! ### all amounts together -/
def sumTo (f : Int → Int) : Nat → Int
  | 0 => 0
  | n + 1 => sumTo f n + f n
/-! ### the gap: the least first -/
def gapOf : Int → List Int → Option Int
  | _, [] => none
  | reach, x :: r => if reach + 1 < x then some (reach + 1) else gapOf (reach + x) r
end Lp
namespace Lp
def sizesP (links : Int) (os : List Int) : List Int := (piecesP links os).map (·.2)
theorem foldP_facts {links : Int} : ∀ (os : List Int) (st : List (Int × Int) × Int), os.Pairwise (· < ·) → (∀ o ∈ os, st.2 ≤ o ∧ o < links) → (st.1.map (·.2)).sum = st.2 → (∀ x ∈ st.1.map (·.2), 0 < x) → st.2 ≤ links →
    ((os.foldl stepP st).1.map (·.2)).sum = (os.foldl stepP st).2 ∧ (∀ x ∈ (os.foldl stepP st).1.map (·.2), 0 < x) ∧ (os.foldl stepP st).2 ≤ links
  | [], st, _, _, h1, h2, h3 => ⟨h1, h2, h3⟩
  | o :: r, st, p, g, h1, h2, h3 => by
    obtain ⟨p1, p2⟩ := List.pairwise_cons.mp p
    have g0 := g o List.mem_cons_self
    rw [List.foldl_cons]
    have e1 : ((stepP st o).1.map (·.2)).sum = (stepP st o).2 := by
      unfold stepP
      dsimp only
      rw [List.map_append, List.map_append, List.sum_append, List.sum_append, h1]
      split
      · simp; omega
      · simp; omega
    have e2 : ∀ x ∈ (stepP st o).1.map (·.2), 0 < x := by
      unfold stepP
      dsimp only
      intro x hx
      rw [List.map_append, List.map_append] at hx
      rcases List.mem_append.mp hx with hx | hx
      · rcases List.mem_append.mp hx with hx | hx
        · exact h2 x hx
        · split at hx
          · simp at hx; omega
          · simp at hx
      · simp at hx; omega
    refine foldP_facts r (stepP st o) p2 (fun q hq => ?_) e1 e2 ?_
    · have := p1 q hq
      have := g q (List.mem_cons_of_mem _ hq)
      show o + 1 ≤ q ∧ _
      omega
    · show o + 1 ≤ links
      omega
theorem sizes_facts {links : Int} {os : List Int} {m : Nat} (R : RowOk links os m) : (sizesP links os).sum = links ∧ ∀ x ∈ sizesP links os, 0 < x := by
  have hl := R.lo
  obtain ⟨e1, e2, e3⟩ := foldP_facts (links := links) os ([], 0) R.inc (fun o ho => R.rng o ho) rfl (fun x hx => by simp at hx) (by show (0 : Int) ≤ links; omega)
  unfold sizesP piecesP
  rw [List.map_append, List.sum_append, e1]
  constructor
  · split
    · simp; omega
    · simp; omega
  · intro x hx
    rcases List.mem_append.mp hx with hx | hx
    · exact e2 x hx
    · split at hx
      · simp at hx; omega
      · simp at hx
theorem sizes_len {links : Int} {os : List Int} : (sizesP links os).length ≤ 2 * os.length + 1 := by
  unfold sizesP
  rw [List.length_map]
  exact piecesP_len links os
/-! ### the amounts' ways in a row -/
def toldL (f : Int → Int) (n : Nat) : List Int := (List.range n).map fun t : Nat => f t
end Lp
namespace Lp
open PySem L2
/-! A DICT OF COUNTS: at t stands f t, or nothing where f t is 0 -/
def tv (c : Int) : Option V := if c = 0 then none else some (.int c)
structure Tab (kvs : List (Key × V)) (f : Int → Int) : Prop where
  nd : (kvs.map (·.1)).Nodup
  keyed : ∀ kv ∈ kvs, ∃ (t : Int) (n : Int), kv = ((Sum.inl t : Key), V.int n)
  val : ∀ t : Int, valV kvs (Sum.inl t : Key) = tv (f t)
theorem nd_put {kvs : List (Key × V)} {k : Key} (v : V) (hn : (kvs.map (·.1)).Nodup) : ((putK kvs k v).map (·.1)).Nodup := by
  unfold putK
  split
  · rw [List.map_map]
    have e : ((fun kv : Key × V => kv.1) ∘ fun kv => if kv.1 = k then (kv.1, v) else kv) = fun kv => kv.1 := funext fun kv => by
      simp only [Function.comp]
      split <;> rfl
    rw [e]
    exact hn
  · rename_i h
    have hv : valV kvs k = none := by
      rw [valV_any] at h
      cases e : valV kvs k with
      | none => rfl
      | some x => rw [e] at h; exact absurd rfl h
    rw [List.map_append]
    exact nd_snoc hn (valV_not hv)
theorem mem_put {kvs : List (Key × V)} {k : Key} {v : V} {p : Key × V} (h : p ∈ putK kvs k v) : p ∈ kvs ∨ p = (k, v) := by
  unfold putK at h
  split at h
  · obtain ⟨q, hq, e⟩ := List.mem_map.mp h
    split at e
    · rename_i hk
      right
      rw [← e, hk]
    · left
      rw [← e]
      exact hq
  · rcases List.mem_append.mp h with h | h
    · exact .inl h
    · exact .inr (List.mem_singleton.mp h)
theorem valV_of_mem : ∀ {kvs : List (Key × V)} {k : Key} {v : V}, (kvs.map (·.1)).Nodup → (k, v) ∈ kvs → valV kvs k = some v
  | p :: r, k, v, hn, h => by
    rw [List.map_cons, List.nodup_cons] at hn
    rcases List.mem_cons.mp h with h | h
    · subst h
      exact valV_pos rfl
    · rw [valV_neg (fun e => hn.1 (e ▸ List.mem_map.mpr ⟨_, h, rfl⟩))]
      exact valV_of_mem hn.2 h
/- the counts, the first i of the old sums taken with one piece more -/
open Classical in
noncomputable def part (kvs : List (Key × V)) (f : Int → Int) (size : Int) (i : Nat) (t : Int) : Int := f t + if (Sum.inl (t - size) : Key) ∈ (kvs.take i).map (·.1) then f (t - size) else 0
/-- [piece[1] for piece in pieces]: the block's walk over a list of pairs -/
theorem lc_sizes {K : PySem.W.Frag} {H0 H1 : Hp} {p D : Addr} {vs : List V} {ps : List (Int × Int)} {Pq : Hp → Prop} (hp : H0 p = none) (G : Grow H0 H1 p vs ps) (hD : H1 D = none) (hl : ps.length ≤ 1000)
    (q : ∀ H2, Same H0 H2 → H2 D = some (.lst ((ps.map (·.2)).map V.int)) → Pq H2) :
    ∃ W : Nat → Nat → St → Hp → Prop, (∃ m, W 0 m [none] (upd H1 D (.lst []))) ∧ ∀ i m σ' H', W i m σ' H' → ((Itl K p).stop i H' ∧ Pq H') ∨ ((Itl K p).go i H' ∧ ∃ N : St → Hp → Prop, (∀ σ2 H2, N σ2 H2 → ∃ m', m' < m ∧ W (i + 1) m' σ2 H2) ∧
      ∀ x H2, (Itl K p).yld i H' x H2 → gName 0 x σ' H2 fun σ3 H3 => tAlways σ3 H3 fun b H4 => if b = true then (tOp (rIxT K) (tVar 0) (tC (.int 1))) σ3 H4 fun y H5 => ∃ xs, H5 D = some (.lst xs) ∧ xs.length < sizeLine ∧ N σ3 (upd H5 D (.lst (xs ++ [y]))) else N σ3 H4) := by
  have hpD : p ≠ D := ne_of_none G.at_ hD
  refine lc_list (K := K) (a := p) (D := D) (xs := vs) (Pq := Pq) (fun i σ H' => (∃ v, σ = [v]) ∧ Same H1 H' ∧ H' D = some (.lst (((ps.take i).map (·.2)).map V.int))) ?_ ?_ ?_ ?_
  · exact ⟨⟨none, rfl⟩, same_new hD _, upd_same⟩
  · rintro i σ H' _ ⟨_, sm, _⟩
    exact SqL.of (sm _ _ G.at_)
  · rintro i x σ H' hi ⟨⟨v, rfl⟩, sm, hd⟩
    obtain ⟨t, pc, rfl, hpc, hT⟩ := G.tups.get hi
    refine ⟨_, rfl, t, _, _, _, rfl, rfl, SqT.of (sm _ _ hT), atI_nat (j := 1) rfl, _, hd, small1000 (by rw [List.length_map, List.length_map, List.length_take]; omega), ⟨_, rfl⟩, fun b u e => ?_, ?_⟩
    · rw [upd_ne (ne_of_none e hD)]
      exact sm b u e
    · rw [upd_same, List.take_add_one, hpc, List.map_append, List.map_append]
      rfl
  · rintro σ H' ⟨_, sm, hd⟩
    have e := G.tups.length
    rw [e, List.take_length] at hd
    exact q H' (G.same.trans sm) hd
end Lp
namespace L2
open PySem PySem.Spec PyProof.Rows
/-! sum(xs), xs[::-1]; a block that sees names around it -/
section
variable {X : Cx}
theorem call_sum (hc : X.calm = true) : CallR X (.builtin "sum") (fun xs H Q => ∃ (p : Addr) (ns : List Int), xs = [.ref p] ∧ SqL X.K H p (ns.map V.int) ∧ Q (.int ns.sum) H) := by
  intro pins s σ H xs us Q I r h
  obtain ⟨p, ns, rfl, hS, q⟩ := h
  obtain ⟨u, rfl, rx⟩ := vals1 r
  cases rx
  obtain ⟨its, rI, pl, hz⟩ := I.list hS
  have hI : IntsAre its ns := intsAre_of rI
  have hl := pl.isList
  obtain ⟨o, ho, _⟩ := id hl
  have hne : p ≠ s.heap.objs.size := Nat.ne_of_lt (Heap.lt_size ho)
  obtain ⟨xs, hx⟩ := hI.allInts.items
  have hn : numsOf its.toArray.toList = ns := by rw [show its.toArray.toList = its from rfl, hI.numsOf]
  rw [hx] at hl hn
  rw [nums_intItems] at hn
  have hsz : (intItems xs).size = xs.size := by simp [intItems]
  have W := (Walks.list (prog := X.prog) (w := X.w) (A := X.A.in1) (I.ok.hd hc) s.heap.objs.size p hne (intItems xs)).toS
  rw [hsz] at W
  refine call_sum_walkAnyS (wpAny_pyIter_list hl ?_)
  refine ⟨s.heap.objs.size, _, _, _, _, _, _, numAt xs, rfl, W, ⟨⟨_, Heap.get?_push_size _ rfl, rfl, rfl⟩, hl.at fun o e => Heap.get?_push_of_some _ e⟩, fun b hb => ?_, fun i v hP => intItems_at hP, fun s' t' hm => ?_⟩
  · rcases List.mem_cons.mp hb with rfl | hb
    · exact Heap.lt_size (Heap.get?_push_size _ rfl)
    · obtain rfl := List.mem_singleton.mp hb
      exact Heap.lt_size (Heap.get?_push_of_some _ ho)
  · obtain ⟨h', g', d', tk', os'⟩ := s'
    have e1 : g' = s.gens := hm.gens
    have e2 : d' = s.drawn := hm.drawn
    have e3 : os' = s.os := hm.os
    subst e1 e2 e3
    have I1 : Inv X pins σ H { s with heap := h', toks := tk' } := I.kept fun b o e => hm.heap b o (fun hb => absurd (Heap.lt_size e) ((List.mem_singleton.mp hb) ▸ Nat.lt_irrefl _)) (Heap.get?_push_of_some _ e)
    refine ⟨.int ns.sum, H, I1, ⟨t', ?_⟩, q⟩
    rw [preSum_eq, List.take_of_length_le (by simp), hn]
/-- xs[::-1] -/
def tRev (K : PySem.W.Frag) (te : TE) : TE := fun σ H Q => te σ H fun x H1 => ∃ a xs, x = .ref a ∧ SqL K H1 a xs ∧ ∀ p, H1 p = none → Q (.ref p) (upd H1 p (.lst xs.reverse))
end
/-! ### a block that sees names around it -/
def relabelS (scope sc : Scope) : List (Str × NameKind) := scope.names.map fun (n, k) => if (k == .free && sc.kind == .function && sc.names.lookup n == some .cell) then (n, .cell) else (n, k)
theorem lookup_keys {α : Type} : ∀ {l : List (Str × α)} {x : Str}, x ∈ l.map (·.1) → ∃ c, l.lookup x = some c
  | [], x, h => by simp at h
  | (y, c) :: r, x, h => by
    rw [List.lookup_cons]
    cases e : x == y with
    | true => exact ⟨c, rfl⟩
    | false =>
      rw [List.map_cons] at h
      rcases List.mem_cons.mp h with h | h
      · subst h
        simp at e
      · exact lookup_keys h
theorem lookup_all {α : Type} {P : Str → α → Prop} : ∀ {l : List (Str × α)} {x : Str} {c : α}, (∀ p ∈ l, P p.1 p.2) → l.lookup x = some c → P x c
  | [], x, c, _, h => by simp at h
  | (y, d) :: r, x, c, a, h => by
    rw [List.lookup_cons] at h
    cases e : x == y with
    | true =>
      rw [e] at h
      cases h
      have := eq_of_beq e
      subst this
      exact a (x, d) List.mem_cons_self
    | false =>
      rw [e] at h
      exact lookup_all (fun p hp => a p (List.mem_cons_of_mem _ hp)) h
theorem BlkS.free {X : Cx} {scope sc : Scope} {cl : List (Str × Addr)} {N : List Str} (hsc : X.env.scope = sc) (clos : closureFor scope X.env = pure cl) (kind : scope.kind = .function) (nocell : ∀ y ∈ scope.names, y.2 ≠ .cell)
    (names : ∀ x ∈ scope.names, x.2 = .local → scope.names.lookup x.1 = some .local) (sub : ∀ p ∈ cl, X.env.cells.lookup p.1 = some p.2)
    {ks : List Str} (hks : cl.map (·.1) = ks) (has : ∀ p ∈ relabelS scope sc, (p.2 = .cell ∨ p.2 = .free) → p.1 ∈ ks) : BlkS X scope cl N where
  clos := clos
  kind := kind
  nocell := nocell
  names := names
  sub := fun x c e => lookup_all (P := fun x c => X.env.cells.lookup x = some c) sub e
  has := fun x hx => by
    have e : (relabel scope X.env).names = relabelS scope sc := by rw [← hsc]; rfl
    rw [e] at hx
    refine lookup_keys ?_
    rw [hks]
    rcases hx with hx | hx
    · exact has _ (lookup_mem hx) (.inl rfl)
    · exact has _ (lookup_mem hx) (.inr rfl)
section
variable {X : Cx} {scope : Scope} {cl : List (Str × Addr)} {N : List Str} {σ σc : St} {y : Str}
theorem FromOuter.nil : FromOuter X scope cl [] σ [] := ⟨rfl, fun j y v h => by simp at h⟩
theorem FromOuter.skip (h : FromOuter X scope cl N σ σc) : FromOuter X scope cl (y :: N) σ (Option.none :: σc) := by
  refine ⟨by rw [List.length_cons, List.length_cons, h.len], fun j z v hj hv => ?_⟩
  cases j with
  | zero => cases hv
  | succ j => exact h.look j z v (by simpa using hj) (by simpa using hv)
theorem FromOuter.take {i : Nat} {c : Addr} {v : V} (h : FromOuter X scope cl N σ σc) (h1 : X.N[i]? = some y) (h2 : σ[i]? = some (some v)) (vis : Vis X.env.scope y) (hc : cl.lookup y = some c) (kd : X.env.kindOf y = some .cell ∨ X.env.kindOf y = some .free)
    (kd' : (relabel scope X.env).names.lookup y = some .cell ∨ (relabel scope X.env).names.lookup y = some .free) : FromOuter X scope cl (y :: N) σ (some v :: σc) := by
  refine ⟨by rw [List.length_cons, List.length_cons, h.len], fun j z w' hj hv => ?_⟩
  cases j with
  | zero =>
    cases hj
    cases hv
    exact ⟨i, c, h1, h2, vis, hc, kd, kd'⟩
  | succ j => exact h.look j z w' (by simpa using hj) (by simpa using hv)
end
end L2
namespace L2
open PySem PySem.Spec PyProof.Rows Lp
/-! lists of lists of ints -/
inductive LsH (H : Hp) : List V → List (List Int) → Prop
  | nil : LsH H [] []
  | cons {a : Addr} {xs : List Int} {vs : List V} {xss : List (List Int)} : H a = some (.lst (xs.map V.int)) → LsH H vs xss → LsH H (.ref a :: vs) (xs :: xss)
def lD (xs : List Int) : PyData := .list (xs.map PyData.int)
/-- a new list l of new lists; all that was tracked stays -/
structure LsNew (H H' : Hp) (l : Addr) (vs : List V) (xss : List (List Int)) : Prop where
  same : Same H H'
  at_ : H' l = some (.lst vs)
  new : H l = none
  ls : LsH H' vs xss
  fresh : ∀ v ∈ vs, ∃ a, v = .ref a ∧ H a = none
  apart : ∀ v ∈ vs, v ≠ .ref l
section
variable {H H1 H2 : Hp} {l q p : Addr} {vs : List V} {xss : List (List Int)} {xs : List Int} {o : HO}
end
end L2
namespace Lp
open PySem
/-! THE TABLE OF A SET to which nothing but ints is added: its places rise, as long as it is plain -/
structure TOk (t : SetTable) (n : Nat) (led : Bool) : Prop where
  fits : t.fits n = true
  led : t.led = led
  dum : t.dummies = #[]
  ris : t.plain = true → t.place.toList.Pairwise (· < ·)

end Lp
namespace Lp
open PySem PySem.Spec PyProof.Rows L2
/-! A SET OF INTS, filled one by one, so that it can be walked -/
def byText (w : World) : Bool := w.params.followText "set-order"
def SetI (prog : Program) (w : World) (h : Heap) (a : Addr) (ns : List Int) : Prop :=
  ns.Nodup ∧ ∃ (o : Obj) (es : Array (Int × Value)) (ep : Nat) (t : SetTable), h.get? a = some o ∧ o.ExactSet ∧ o.data = .set es ep t ∧ ElemsOf (intKind prog w) es.toList ∧
    (∃ ms, IntsAre (es.toList.map (·.2)) ms ∧ ms.Perm ns) ∧ es.size < scanBound ∧ TOk t es.size (!byText w)
section
variable {prog : Program} {w : World} {A : Around} {E : Value → Shared → Prop} {s : Shared}
end
end Lp
namespace Lp
open PySem PySem.Spec PyProof.Rows L2
/-! set(xs) of a list of ints -/
def dstep (acc : List Int) (k : Int) : List Int := if k ∈ acc then acc else acc ++ [k]
def ded (l : List Int) : List Int := l.foldl dstep []
section
variable {prog : Program} {w : World} {A : Around} {R : Result → Shared → Prop} {I : Addr} {fp wr : List Addr} {G : Array GenState → Array GenState → Prop} {n : Nat} {P : Nat → Value → Prop} {St : Nat → Shared → Prop}
end
section
variable {prog : Program} {w : World} {A : Around} {E : Value → Shared → Prop} {s : Shared}
abbrev setObj (w : World) : Obj := { cls := .type "set", dict := none, data := .set #[] 0 (.fresh 0 0 (!byText w)) }
end
end Lp
namespace Lp
open PySem PySem.Spec PyProof.Rows L2
abbrev IsSetIter (h : Heap) (it : Addr) (first : Value) (i : Nat) (a : Addr) (n ep : Nat) : Prop :=
  h.get? it = some { cls := .type "set_iterator", dict := none, data := .fields #[first, .int i 0, .ref a, .int n 0, .int ep 0], slots := #[] }
section
variable {prog : Program} {w : World} {A : Around} {E : Value → Shared → Prop} {s : Shared}
end
/-! the order by a text is an order -/
section
variable {prog : Program} {w : World} {A : Around} {E : Value → Shared → Prop} {s : Shared}
end
abbrev setIt (first : Value) (i : Nat) (a : Addr) (n ep : Nat) : Obj := { cls := .type "set_iterator", dict := none, data := .fields #[first, .int i 0, .ref a, .int n 0, .int ep 0], slots := #[] }
abbrev placesObj (ps : List Nat) : Obj := { cls := .type "tuple", data := .seq (ps.map fun i : Nat => rawInt i).toArray }
section
variable {prog : Program} {w : World} {A : Around} {E : Value → Shared → Prop} {s : Shared}
end
end Lp
namespace Lp
open PySem PySem.Spec PyProof.Rows L2
section
variable {prog : Program} {w : World} {A : Around} {E : Value → Shared → Prop} {s : Shared}

end
end Lp
namespace L2
open PySem PySem.Spec PyProof.Rows
/-! enumerate, zip, set, sorted(set), list(dict) over the layer -/
section
variable {X : Cx} {pins : List (Addr × Obj)} {σ : St} {H : Hp} {s : Shared} {h' : Heap} {t' : Nat} {fp : List Addr}
/-- untracked records of ours have turned -/
theorem Inv.turnedL (I : Inv X pins σ H s) (k : ∀ b o, b ∉ fp → s.heap.get? b = some o → h'.get? b = some o) (hf : ∀ b ∈ fp, FpOk X pins H b) : Inv X pins σ H { s with heap := h', toks := t' } := by
  have nit : ∀ b u, H b = some u → b ∉ fp := fun b u e z => by rw [(hf b z).1] at e; cases e
  have nL : X.env.locals ∉ fp := fun z => (hf _ z).2.1 rfl
  refine I.step (g' := s.gens) (d' := s.drawn) (ch := fp) (fun b hb => ?_) (fun b o _ _ hc e _ => k b o hc e) (fun b o _ _ hc e _ => ⟨o.slots, k b o hc e⟩) (fun _ _ _ _ n => n)
    (fun b o hc e => ⟨o, k b o hc e⟩) (fun _ _ e => e) (fun _ _ _ e => e) (fun b ps e => ⟨#[], by rw [e]; simp⟩) (fun m hm => ?_) (fun b u e => ?_) I.bare
  · obtain ⟨f0, f1, f2, f3, f4, f5⟩ := hf b hb
    exact ⟨f3, f1, f4, f5⟩
  · obtain ⟨o, es, ep, ho, r⟩ := hm
    exact ⟨o, es, ep, k _ o nL ho, r⟩
  · refine (I.hok b u e).stay (fun c v hc q => k c v ?_ q) (fun _ q => q) fun _ _ q => q
    rcases hc with z | z
    · rw [z]; exact nit b u e
    · exact nit c _ z
theorem Inv.turnedTupL {xs : List V} {its : List Value} (I : Inv X pins σ H s) (k : ∀ b o, b ∉ fp → s.heap.get? b = some o → h'.get? b = some o) (hf : ∀ b ∈ fp, FpOk X pins H b) (hz : xs.length ≤ sizeLine) (hv : Vals xs its)
    (ht : h'.get? s.heap.objs.size = some { cls := .type "tuple", data := .seq its.toArray }) : Inv X pins σ (upd H s.heap.objs.size (.tup xs)) { s with heap := h', toks := t' } := by
  have hp : H s.heap.objs.size = none := I.hok.fresh (Nat.le_refl _)
  have nb : ∀ {b : Addr} {u : HO}, H b = some u → b ≠ s.heap.objs.size := fun e z => by subst z; rw [hp] at e; cases e
  have ni : ∀ {b : Addr} {u : HO}, H b = some u → b ∉ fp := fun {b u} e z => by rw [(hf b z).1] at e; cases e
  have nL : X.env.locals ∉ fp := fun z => (hf _ z).2.1 rfl
  have hok : HOk X.prog X.w (upd H s.heap.objs.size (.tup xs)) h' := fun a u e => by
    by_cases h : a = s.heap.objs.size
    · subst h
      rw [upd_same] at e
      cases e
      exact ⟨hz, its, hv, _, ht, rfl, _, rfl⟩
    · rw [upd_ne h] at e
      refine (I.hok a u e).stay (fun b o hb q => k b o ?_ q) (fun b q => by rw [upd_ne (nb q)]; exact q) (fun b xs q => by rw [upd_ne (nb q)]; exact q)
      rcases hb with rfl | hb
      · exact ni e
      · exact ni hb
  exact I.step (g' := s.gens) (d' := s.drawn) (ch := fp) (fun b hb => by
      obtain ⟨f0, f1, f2, f3, f4, f5⟩ := hf b hb
      exact ⟨f3, f1, f4, f5⟩) (fun b o _ _ hb e _ => k b o hb e) (fun b o _ _ hb e _ => ⟨o.slots, k b o hb e⟩)
    (fun b o _ e n => by rw [upd_ne (Nat.ne_of_lt (Heap.lt_size e))]; exact n) (fun b o hb e => ⟨o, k b o hb e⟩) (fun b xs q => by rw [upd_ne (nb q)]; exact q)
    (fun b o u q => by rw [upd_ne (nb q)]; exact q) (fun b ps q => ⟨#[], by rw [upd_ne (nb q)]; simpa using q⟩) (fun m q => q.at' fun o e => k _ o nL e) hok I.bare
end
/-! ### enumerate(xs) -/
def Ite (a : Addr) : It :=
  ⟨fun i H => ∃ xs x, H a = some (.lst xs) ∧ xs[i]? = some x, fun i H x H' => ∃ p y, H p = none ∧ x = .ref p ∧ H' = upd H p (.tup [.int i, y]) ∧ ∀ xs, H a = some (.lst xs) → xs[i]? = some y, fun i H => ∃ xs, H a = some (.lst xs) ∧ xs.length ≤ i⟩
theorem turn_enum {P : Program} {w : World} {K : PySem.W.Frag} {elts : List Expr} {x1 : Nat} {tpos : Pos} (a e it : Addr) (hne : e ≠ it) :
    Turn P w K (.Tuple elts x1 tpos) (Ite a) [e, it] e (fun i h => (∃ old, IsEnum h e it (i : Int) old) ∧ h.IsListIter it a i) where
  mem := by simp
  obj := fun i h st b hb => by
    obtain ⟨⟨old, se⟩, ⟨o, si, c, d⟩⟩ := st
    rcases List.mem_cons.mp hb with rfl | hb
    · exact ⟨_, se, fun v z => by cases z⟩
    · rw [List.mem_singleton.mp hb]
      exact ⟨o, si, fun v z => by rw [d] at z; cases z⟩
  keep := fun i h h' st k => let ⟨⟨old, se⟩, si⟩ := st; ⟨⟨old, k e (by simp) _ se⟩, si.at fun o q => k it (by simp) o q⟩
  item := by
    intro X hP hw hK hc i pins s σ H E I hf st hg
    subst hP hw hK
    obtain ⟨xs, x, hq, hx⟩ := hg
    obtain ⟨its, rv, p, hz⟩ := I.list (SqL.of hq)
    obtain ⟨u, hu, ru⟩ := rv.get hx
    obtain ⟨⟨old, se⟩, si⟩ := st
    have hn : H s.heap.objs.size = none := I.hok.fresh (Nat.le_refl _)
    have hen : e ≠ s.heap.objs.size := Nat.ne_of_lt (Heap.lt_size se)
    have hin : it ≠ s.heap.objs.size := by obtain ⟨o, q, _⟩ := si; exact Nat.ne_of_lt (Heap.lt_size q)
    refine wpAny_pyNext_enum_item se si p.isList (x := u) (by simpa using hu) hne fun h' se' si' ht hsz kp => ?_
    refine ⟨_, rfl, wpAny_letOwnedTupleGo_enum se' fun h2 se2 sb => ?_⟩
    have k2 : ∀ b o, b ∉ [e, it] → s.heap.get? b = some o → h2.get? b = some o := fun b o hb q => by
      have h1 : b ≠ e := fun z => hb (by simp [z])
      have h2 : b ≠ it := fun z => hb (by simp [z])
      exact sb.extBut b o h1 (kp b o h1 h2 q)
    have ht2 := sb.extBut _ _ hen.symm ht
    have I1 : Inv X pins σ (upd H s.heap.objs.size (.tup [.int i, x])) { s with heap := h2, toks := s.toks + 1 } := I.turnedTupL (s := s) (h' := h2) k2 hf (by show 2 ≤ sizeLine; decide) (its := [.int i s.toks, u]) (.cons ⟨_, rfl⟩ (.cons ru .nil)) ht2
    refine ⟨.ref s.heap.objs.size, _, I1, rfl, ⟨_, x, hn, rfl, rfl, fun ys hy => by rw [hq] at hy; cases hy; exact hx⟩, ⟨⟨u, ?_⟩, si'.extBut sb.extBut hne.symm⟩, fun b hb => ?_⟩
    · have e1 : ((i + 1 : Nat) : Int) = (i : Int) + 1 := by omega
      rw [e1]
      exact se2
    · have hb' : b ≠ s.heap.objs.size := by
        rcases List.mem_cons.mp hb with rfl | hb
        · exact hen
        · rw [List.mem_singleton.mp hb]; exact hin
      rw [upd_ne hb']
      exact (hf b hb).1
  done := by
    intro X hP hw hK hc i pins s σ H E I hf st hg
    subst hP hw hK
    obtain ⟨xs, hq, hx⟩ := hg
    obtain ⟨its, rv, p, hz⟩ := I.list (SqL.of hq)
    have hl := rv.length
    obtain ⟨⟨old, se⟩, si⟩ := st
    exact wpAny_pyNext_enum_end (I.ok.hd hc) se si p.isList (by simp; omega) fun h' eb => ⟨rfl, I.turnedL (t' := s.toks) (fun b o hb q => eb b o (fun z => hb (by simp [z])) q) hf⟩
  self := fun _ _ _ _ _ st h => let ⟨⟨_, se⟩, _⟩ := st; wpAny_pyIter_enum se h
def iEnum (ta : TA) : TI := fun σ H R => ta σ H fun vs H1 => ∃ a xs, vs = [.ref a] ∧ H1 a = some (.lst xs) ∧ R (Ite a) H1
section
variable {X : Cx} {elts : List Expr} {x1 : Nat} {tpos : Pos}
theorem pi_enum {l : Expr} {ta : TA} {p pos : Pos} (hg : Gl X "enumerate") (hm : X.mg "enumerate" = none) (ha : PA X [l] ta) (hs : starEach [l] X.env = [(false, eval l X.env)] := by rfl) :
    PI X (.Tuple elts x1 tpos) (.Call (.Name "enumerate" p) [l] [] pos) (iEnum ta) := by
  intro pins s σ H R I h
  refine Call_ (ld_blt I hg hm bb_enumerate (PyProof.Rows.callWith_type1 (thn (ha pos pins s σ H _ I h) fun us s1 ⟨vs, H1, I1, r1, q1⟩ => ?_) hs rfl))
  obtain ⟨a, xs, rfl, hq, q⟩ := q1
  obtain ⟨u, rfl, rx⟩ := vals1 r1
  cases rx
  obtain ⟨z, its, n, r, e⟩ := I1.hok a _ hq
  refine call_enumerate_1 e fun h' se si hsz kp => ?_
  refine wpAny_pyIter_enum se ?_
  have I2 : Inv X pins σ H1 { s1 with heap := h', toks := s1.toks } := I1.kept kp
  refine ⟨_, [s1.heap.objs.size + 1, s1.heap.objs.size], _, _, H1, rfl, I2, turn_enum a _ _ (Nat.succ_ne_self _), ⟨⟨_, se⟩, si⟩, fun b hb => ?_, q⟩
  rcases List.mem_cons.mp hb with rfl | hb
  · exact I1.fpOk (Nat.le_succ _) (I1.hok.fresh (Nat.le_succ _))
  · rw [List.mem_singleton.mp hb]
    exact I1.fpOk (Nat.le_refl _) (I1.hok.fresh (Nat.le_refl _))
end
/-- over a list that the loop leaves as it is, each item with its number in a new tuple -/
theorem for_enum {a : Addr} {xs : List V} {g : TG} {tb : TS} {D : Ends} {σ : St} {H : Hp} (Pv : Nat → St → Hp → Prop) (h0 : Pv 0 σ H) (hl : ∀ i σ H, i ≤ xs.length → Pv i σ H → H a = some (.lst xs))
    (hs : ∀ i x p σ H, xs[i]? = some x → Pv i σ H → H p = none → g (.ref p) σ (upd H p (.tup [.int i, x])) fun σ2 H2 => tb { D with nx := Pv (i + 1), ct := Pv (i + 1), bk := D.nx } σ2 H2) (hd : ∀ σ H, Pv xs.length σ H → D.nx σ H) :
    ∃ W : Nat → Nat → St → Hp → Prop, (∃ m, W 0 m σ H) ∧ ∀ i m σ H, W i m σ H →
      ((Ite a).stop i H ∧ D.nx σ H) ∨ ((Ite a).go i H ∧ ∃ N : St → Hp → Prop, (∀ σ' H', N σ' H' → ∃ m', m' < m ∧ W (i + 1) m' σ' H') ∧ ∀ x H', (Ite a).yld i H x H' → g x σ H' fun σ2 H2 => tb { D with nx := N, ct := N, bk := D.nx } σ2 H2) := by
  refine ⟨fun i m σ H => m = xs.length - i ∧ i ≤ xs.length ∧ Pv i σ H, ⟨xs.length, by simp, Nat.zero_le _, h0⟩, ?_⟩
  rintro i m σ H ⟨rfl, hi, p⟩
  have q := hl i σ H hi p
  by_cases hlt : i < xs.length
  · refine .inr ⟨⟨xs, xs[i], q, by simp [hlt]⟩, Pv (i + 1), fun σ' H' p' => ⟨xs.length - (i + 1), by omega, rfl, hlt, p'⟩, fun x H' y => ?_⟩
    obtain ⟨t, y, ht, e, e2, hy⟩ := y
    subst e; subst e2
    exact hs i y t σ _ (hy xs q) p ht
  · have e : i = xs.length := by omega
    subst e
    exact .inl ⟨⟨xs, q, Nat.le_refl _⟩, hd σ H p⟩
/-! ### zip(xs, ys) -/
def Itz (a b : Addr) : It :=
  ⟨fun i H => ∃ xs ys x y, H a = some (.lst xs) ∧ H b = some (.lst ys) ∧ xs[i]? = some x ∧ ys[i]? = some y,
   fun i H x H' => ∃ p y z, H p = none ∧ x = .ref p ∧ H' = upd H p (.tup [y, z]) ∧ (∀ xs, H a = some (.lst xs) → xs[i]? = some y) ∧ ∀ ys, H b = some (.lst ys) → ys[i]? = some z,
   fun i H => ∃ xs ys, H a = some (.lst xs) ∧ H b = some (.lst ys) ∧ (xs.length ≤ i ∨ ys.length ≤ i)⟩
def iZip (ta : TA) : TI := fun σ H R => ta σ H fun vs H1 => ∃ a b xs ys, vs = [.ref a, .ref b] ∧ H1 a = some (.lst xs) ∧ H1 b = some (.lst ys) ∧ R (Itz a b) H1
section
variable {X : Cx} {elts : List Expr} {x1 : Nat} {tpos : Pos}
end
/-! ### set(xs), sorted(set), list(dict) -/
abbrev setHO (P : Program) (w : World) (a : Addr) (ns : List Int) : HO := .ext fun h => Lp.SetI P w h a ns
section
variable {X : Cx}
theorem vals_keys {P : Program} {w : World} {kvs : List (Key × V)} {vs : List (Key × Value)} {acc : Array Value} (kv : KV kvs vs) (ac : ItemsOf (fun i v => ∃ k x, vs[i]? = some (k, x) ∧ (mixKind P w).is k v = true) acc vs.length) : Vals (kvs.map fun p => kV p.1) acc.toList := by
  have key : ∀ (l : List (Key × V)) (us : List Value), us.length = l.length → (∀ (i : Nat) (p : Key × V) (u : Value), l[i]? = some p → us[i]? = some u → RelV (kV p.1) u) → Vals (l.map fun p => kV p.1) us := by
    intro l
    induction l with
    | nil => intro us hl _; cases us with
      | nil => exact .nil
      | cons _ _ => simp at hl
    | cons p r ih => intro us hl hr; cases us with
      | nil => simp at hl
      | cons u us => exact .cons (hr 0 p u rfl rfl) (ih us (by simpa using hl) fun i p' u' h1 h2 => hr (i + 1) p' u' (by simpa using h1) (by simpa using h2))
  have hl : vs.length = kvs.length := (Paired.length kv).symm
  refine key kvs acc.toList (by rw [Array.length_toList, ac.1, hl]) fun i p u h1 h2 => ?_
  rw [Array.getElem?_toList] at h2
  obtain ⟨k, x, e1, e2⟩ := ac.2 i u h2
  obtain ⟨q, hq, e3, _⟩ := KV.get kv h1
  rw [e1] at hq
  cases hq
  rw [e3]
  exact rel_of_key e2
theorem call_listDict (hc : X.calm = true) : CallR X (.type "list") (fun xs H Q => ∃ (d : Addr) (kvs : List (Key × V)), xs = [.ref d] ∧ Rd H d (.dK kvs) ∧ ∀ l, H l = none → Q (.ref l) (upd H l (.lst (kvs.map fun p => kV p.1)))) := by
  intro pins s σ H xs us Q I r h
  obtain ⟨d, kvs, rfl, hd, k⟩ := h
  obtain ⟨u, rfl, rx⟩ := vals1 r
  cases rx
  obtain ⟨z, hs, vs, rel, o, es, ep, h1, h2, h3, h4⟩ := dk_rd I.hok hd
  have hl : vs.length = kvs.length := (Paired.length rel).symm
  refine PySem.W.kdl_call (PySem.W.kdl_dict (knd := mixKind X.prog X.w) (kvs := vs) (ep := ep) hs) (I.ok.hd hc) ⟨o, es, h1, h2, h3, h4⟩ (by rw [hl]; exact z) fun h' tk acc' c' kp hD hacc => ?_
  have hv := vals_keys rel hacc
  exact ⟨.ref s.heap.objs.size, _, I.laid (t' := tk) kp (Nat.le_refl _) (show ObjOk X.prog X.w _ _ _ (.lst (kvs.map fun p => kV p.1)) from ⟨by rw [List.length_map]; exact z, acc'.toList, c', hv, by rw [Array.toArray_toList]; exact hD⟩), rfl, k _ (I.hok.fresh (Nat.le_refl _))⟩
end
end L2
namespace Lp
open PySem L2
/-! PAYMENTS: a dict from sums to lists of pieces' numbers -/
structure Pay (xs : List Int) (i : Nat) (ns : List Int) (t : Int) : Prop where
  inc : ns.Pairwise (· < ·)
  rng : ∀ n ∈ ns, 0 ≤ n ∧ n < (i : Int)
  sum : (ns.map fun n => xs.getD n.toNat 0).sum = t
  len : ns.length ≤ i
theorem Pay.nil (xs : List Int) : Pay xs 0 [] 0 := ⟨List.Pairwise.nil, fun n h => by simp at h, rfl, Nat.le_refl _⟩
theorem Pay.mono {xs : List Int} {i j : Nat} {ns : List Int} {t : Int} (h : Pay xs i ns t) (hij : i ≤ j) : Pay xs j ns t :=
  ⟨h.inc, fun n hn => by have := h.rng n hn; omega, h.sum, Nat.le_trans h.len hij⟩
theorem Pay.step {xs : List Int} {i : Nat} {ns : List Int} {t size : Int} (h : Pay xs i ns t) (hx : xs[i]? = some size) : Pay xs (i + 1) (ns ++ [(i : Int)]) (t + size) := by
  refine ⟨?_, fun n hn => ?_, ?_, ?_⟩
  · rw [List.pairwise_append]
    refine ⟨h.inc, by simp, fun a ha b hb => ?_⟩
    rw [List.mem_singleton.mp hb]
    exact (h.rng a ha).2
  · rcases List.mem_append.mp hn with hn | hn
    · have := h.rng n hn; omega
    · rw [List.mem_singleton.mp hn]; omega
  · rw [List.map_append, List.sum_append, h.sum]
    have e : xs.getD i 0 = size := by rw [List.getD_eq_getElem?_getD, hx]; rfl
    show t + ([xs.getD (i : Int).toNat 0] : List Int).sum = _
    rw [Int.toNat_natCast, e]
    simp
  · rw [List.length_append]
    have := h.len
    simp
    omega
structure PayD (H0 H : Hp) (kvs : List (Key × V)) (xs : List Int) (i : Nat) (S : Int → Prop) : Prop where
  nd : (kvs.map (·.1)).Nodup
  ent : ∀ p ∈ kvs, ∃ (t : Int) (l : Addr) (ns : List Int), p = ((Sum.inl t : Key), V.ref l) ∧ H0 l = none ∧ H l = some (.lst (ns.map V.int)) ∧ Pay xs i ns t
  keys : ∀ t : Int, (Sum.inl t : Key) ∈ kvs.map (·.1) ↔ S t
section
variable {H0 H H' : Hp} {kvs mvs : List (Key × V)} {xs : List Int} {i j : Nat} {S S' : Int → Prop}
theorem PayD.congr (D : PayD H0 H kvs xs i S) (h : ∀ t, S t ↔ S' t) : PayD H0 H kvs xs i S' := ⟨D.nd, D.ent, fun t => (D.keys t).trans (h t)⟩
theorem PayD.mono (D : PayD H0 H kvs xs i S) (hij : i ≤ j) : PayD H0 H kvs xs j S :=
  ⟨D.nd, fun p hp => let ⟨t, l, ns, e, h0, h1, h2⟩ := D.ent p hp; ⟨t, l, ns, e, h0, h1, h2.mono hij⟩, D.keys⟩
theorem PayD.frame (D : PayD H0 H kvs xs i S) (h : ∀ l zs, H l = some (.lst zs) → H' l = some (.lst zs)) : PayD H0 H' kvs xs i S :=
  ⟨D.nd, fun p hp => let ⟨t, l, ns, e, h0, h1, h2⟩ := D.ent p hp; ⟨t, l, ns, e, h0, h _ _ h1, h2⟩, D.keys⟩
theorem PayD.get (D : PayD H0 H kvs xs i S) {t : Int} (h : S t) : ∃ (l : Addr) (ns : List Int), valV kvs (Sum.inl t : Key) = some (.ref l) ∧ H0 l = none ∧ H l = some (.lst (ns.map V.int)) ∧ Pay xs i ns t := by
  obtain ⟨p, hp, e⟩ := List.mem_map.mp ((D.keys t).mpr h)
  obtain ⟨t', l, ns, e', h0, h1, h2⟩ := D.ent p hp
  subst e'
  cases e
  exact ⟨l, ns, valV_of_mem D.nd hp, h0, h1, h2⟩
theorem PayD.none_of (D : PayD H0 H kvs xs i S) {t : Int} (h : ¬ S t) : valV kvs (Sum.inl t : Key) = none := by
  cases e : valV kvs (Sum.inl t : Key) with
  | none => rfl
  | some v => exact absurd ((D.keys t).mp (valV_in e)) h
theorem PayD.isSome (D : PayD H0 H kvs xs i S) (t : Int) : (valV kvs (Sum.inl t : Key)).isSome = true ↔ S t := by
  constructor
  · intro h
    obtain ⟨v, e⟩ := Option.isSome_iff_exists.mp h
    exact (D.keys t).mp (valV_in e)
  · intro h
    obtain ⟨l, ns, e, _⟩ := D.get h
    rw [e]
    rfl
/-- the sums, the first j of the old ones taken with one piece more -/
def Sj (kvs : List (Key × V)) (S : Int → Prop) (size : Int) (j : Nat) (t : Int) : Prop := S t ∨ (Sum.inl (t - size) : Key) ∈ (kvs.take j).map (·.1)
theorem sj_zero (size : Int) (t : Int) : S t ↔ Sj kvs S size 0 t := by simp [Sj]
theorem sj_step {size a : Int} {l : Addr} (h : kvs[j]? = some ((Sum.inl a : Key), V.ref l)) (t : Int) : Sj kvs S size (j + 1) t ↔ Sj kvs S size j t ∨ t = a + size := by
  unfold Sj
  rw [List.take_add_one, h, List.map_append, List.mem_append]
  have e : ((Sum.inl (t - size) : Key) ∈ ((some ((Sum.inl a : Key), V.ref l)).toList.map (·.1) : List Key)) ↔ t = a + size := by
    show _ ∈ [(Sum.inl a : Key)] ↔ _
    rw [List.mem_singleton]
    constructor
    · intro h; have := Sum.inl.inj h; omega
    · intro h; rw [h]; congr 1; omega
  rw [e, or_assoc]
theorem sj_all (D : PayD H0 H kvs xs i S) (size t : Int) : Sj kvs S size kvs.length t ↔ S t ∨ S (t - size) := by
  unfold Sj
  rw [List.take_length, D.keys]
theorem ways_step {ys : List Int} {size t : Int} : (W ys t ≠ 0 ∨ W ys (t - size) ≠ 0) ↔ W (ys ++ [size]) t ≠ 0 := by
  rw [W_snoc]
  have h1 := W_nonneg ys t
  have h2 := W_nonneg ys (t - size)
  omega
theorem payd_start {l : Addr} (hl0 : H0 l = none) (hl : H l = some (.lst [])) : PayD H0 H [((Sum.inl 0 : Key), V.ref l)] xs 0 (fun t => W [] t ≠ 0) := by
  refine ⟨by simp, fun q hq => ?_, fun t => ?_⟩
  · rw [List.mem_singleton.mp hq]
    exact ⟨0, l, [], rfl, hl0, hl, Pay.nil xs⟩
  · rw [W_nil]
    show _ ∈ [(Sum.inl 0 : Key)] ↔ _
    rw [List.mem_singleton]
    constructor
    · intro h; cases h; simp
    · intro h
      by_cases e : t = 0
      · rw [e]
      · rw [if_neg e] at h; exact absurd rfl h
/-- a sum that is not there yet is paid with one piece more -/
theorem PayD.put (D : PayD H0 H mvs xs i S) {d p : Addr} {ns : List Int} {b : Int} {zs : List (Key × V)} (hp0 : H0 p = none) (hp : H p = none) (hdd : H d = some (.dK zs)) (hn : ¬ S b) (hpay : Pay xs i ns b) :
    PayD H0 (upd (upd H p (.lst (ns.map V.int))) d (.dK (putK mvs (Sum.inl b : Key) (.ref p)))) (putK mvs (Sum.inl b : Key) (.ref p)) xs i (fun t => S t ∨ t = b) := by
  have hpd : p ≠ d := fun e => by rw [e, hdd] at hp; cases hp
  have hput : putK mvs (Sum.inl b : Key) (.ref p) = mvs ++ [((Sum.inl b : Key), V.ref p)] := by
    unfold putK
    rw [if_neg (by rw [valV_any, D.none_of hn]; simp)]
  refine ⟨nd_put _ D.nd, fun q hq => ?_, fun t => ?_⟩
  · rcases mem_put hq with hq | hq
    · obtain ⟨t, l, ms, e, h0, h1, h2⟩ := D.ent q hq
      refine ⟨t, l, ms, e, h0, ?_, h2⟩
      rw [upd_ne (fun e => by rw [e, hdd] at h1; cases h1), upd_ne (fun e => by rw [e, hp] at h1; cases h1)]
      exact h1
    · refine ⟨b, p, ns, hq, hp0, ?_, hpay⟩
      rw [upd_ne hpd, upd_same]
  · rw [hput, List.map_append, List.mem_append, D.keys]
    constructor
    · rintro (h | h)
      · exact .inl h
      · exact .inr (Sum.inl.inj (List.mem_singleton.mp h))
    · rintro (h | h)
      · exact .inl h
      · exact .inr (by rw [h]; exact List.mem_singleton.mpr rfl)
end
end Lp
namespace L2
open PySem PySem.Spec PyProof.Rows
/-! a dict display assigned: boxed, so that its evaluation is not looked at when a term is read -/
structure PSb (X : Cx) (st : Stmt) (t : TS) : Prop where un : PS X st t
structure PSbs (X : Cx) (st : List Stmt) (t : TS) : Prop where un : PSs X st t
theorem ps_setD {X : Cx} {i : Nat} {x : Str} {pos' dpos pos : Pos} {keys : List (Option Expr)} {values : List Expr} {trs : List (TE × TE)} (hN : X.N.Nodup) (hi : X.N[i]? = some x) (hx : Loc X.env.scope x) (h : PPs X dpos keys values trs)
    (hall : keys.all (·.isSome) = true) (hl : keys.length = values.length) (h0 : keys ≠ []) (h15 : keys.length ≤ 15)
    (hs : swapsWith (.Dict keys values dpos) (some (.Name x pos')) pos.line X.env = pure false := by rfl) (hf : X.fn x = true ∨ X.env.scope.names.lookup x = some .local := by first | exact .inl rfl | exact .inr rfl | assumption) :
    PSb X (.Assign [.Name x pos'] (.Dict keys values dpos) pos) (tAsg (tDisp trs) (gName i)) := ⟨ps_set hN hi hx (pe_disp h hall hl h0 h15) hs hf⟩
theorem pss_D {X : Cx} {st : Stmt} {t u : TS} {rest : List Stmt} (h1 : PSb X st t) (h2 : PSs X rest u) : PSbs X (st :: rest) (tSeq t u) := ⟨pss_cons h1.un h2⟩
theorem pss_consD {X : Cx} {st : Stmt} {t u : TS} {rest : List Stmt} (h1 : PS X st t) (h2 : PSbs X rest u) : PSs X (st :: rest) (tSeq t u) := pss_cons h1 h2.un
end L2
namespace Lp
open PySem
/-! EXCEPTIONS: an exception's own records, and how it passes a frame -/
/-- the exception at e: its class, no context; T: its traceback's first entry (none: not yet), fl: the frame it is in flight at -/
structure ExAt (h : Heap) (e : Addr) (cls : Value) (T : Option Addr) (fl : Value) : Prop where
  ex : ∃ oe vs, h.get? e = some oe ∧ oe.cls = cls ∧ oe.dict = none ∧ oe.data = .fields vs ∧ vs[2]? = some .none ∧
    match T with
    | none => vs[1]? = some .none
    | some t => vs[1]? = some (.ref t) ∧ t ≠ e ∧ ∃ oT ts, h.get? t = some oT ∧ oT.data = .fields ts ∧ ts[3]? = some fl
/-- all stays but the exception's records; of the frames at fs the slots may change -/
def Moved (fs : List Addr) (e : Addr) (T : Option Addr) (h h' : Heap) : Prop :=
  ∀ b o, h.get? b = some o → b ≠ e → T ≠ some b → (b ∉ fs → h'.get? b = some o) ∧ ∃ sl, h'.get? b = some { o with slots := sl }
theorem Moved.of_kept {fs : List Addr} {e : Addr} {T : Option Addr} {h h' : Heap} (k : ∀ b o, b ≠ e → T ≠ some b → h.get? b = some o → h'.get? b = some o) : Moved fs e T h h' :=
  fun b o q h1 h2 => ⟨fun _ => k b o h1 h2 q, o.slots, k b o h1 h2 q⟩
theorem Moved.trans {fs : List Addr} {e : Addr} {T T' : Option Addr} {h h1 h2 : Heap} (a : Moved fs e T h h1) (b : Moved fs e T' h1 h2) (hT : ∀ t, T' = some t → T = some t ∨ h.get? t = none) : Moved fs e T h h2 := by
  intro c o q n1 n2
  obtain ⟨a1, sl, a2⟩ := a c o q n1 n2
  have n3 : T' ≠ some c := fun z => by
    rcases hT c z with z | z
    · exact n2 z
    · rw [z] at q; cases q
  obtain ⟨_, sl', b2⟩ := b c _ a2 n1 n3
  exact ⟨fun m => (b c o (a1 m) n1 n3).1 m, sl', b2⟩
/-! pure heaps -/
theorem dict_mapF (o : Obj) (f : Array Value → Array Value) : (o.mapFields f).dict = o.dict := by
  obtain ⟨c, d, dt, sl⟩ := o; cases dt <;> rfl
theorem push_upd {h : Heap} {e : Addr} {oe ob : Obj} {vs ts : Array Value} {fl : Value} (he : h.get? e = some oe) (hdi : oe.dict = none) (hd : oe.data = .fields vs) (hsz : 1 < vs.size) (h2 : vs[2]? = some .none)
    (hb : ob.data = .fields ts) (h3 : ts[3]? = some fl) :
    ExAt ((h.push ob).update e (Obj.mapFields (·.setIfInBounds 1 (.ref h.objs.size)))) e oe.cls (some h.objs.size) fl ∧
      ∀ b o, b ≠ e → h.get? b = some o → ((h.push ob).update e (Obj.mapFields (·.setIfInBounds 1 (.ref h.objs.size)))).get? b = some o := by
  have ne : h.objs.size ≠ e := Nat.ne_of_gt (Heap.lt_size he)
  have p1 := Heap.get?_push_of_some (h := h) ob he
  have d1 := Obj.data_mapFields hd (·.setIfInBounds 1 (Value.ref h.objs.size))
  have s1 := Heap.get?_update_self (Obj.mapFields (·.setIfInBounds 1 (Value.ref h.objs.size))) p1 (Obj.isFreed_of_fields d1)
  have p2 : (h.push ob).get? h.objs.size = some ob := Heap.get?_push_size h (Obj.isFreed_of_fields hb)
  refine ⟨⟨_, _, s1, Obj.cls_mapFields _ _, (dict_mapF _ _).trans hdi, d1, ?_, ?_, ne, ob, ts, ?_, hb, h3⟩, fun b o nb q => ?_⟩
  · rw [Array.getElem?_setIfInBounds_ne (by decide)]; exact h2
  · simp [hsz]
  · rw [Heap.get?_update_other _ _ (Ne.symm ne)]; exact p2
  · rw [Heap.get?_update_other _ _ (Ne.symm nb)]; exact Heap.get?_push_of_some _ q
theorem upd_flight {h : Heap} {e t : Addr} {cls fl y : Value} (x : ExAt h e cls (some t) fl) :
    ExAt (h.update t (Obj.mapFields (·.setIfInBounds 3 y))) e cls (some t) y ∧ (∀ b, b ≠ t → (h.update t (Obj.mapFields (·.setIfInBounds 3 y))).get? b = h.get? b) := by
  obtain ⟨oe, vs, he, hc, hdi, hd, h2, h1, ne, oT, ts, hT, hdT, h3⟩ := x.ex
  have hs : 3 < ts.size := (Array.getElem?_eq_some_iff.mp h3).1
  have d1 := Obj.data_mapFields hdT (·.setIfInBounds 3 y)
  have s1 := Heap.get?_update_self (Obj.mapFields (·.setIfInBounds 3 y)) hT (Obj.isFreed_of_fields d1)
  have o1 : ∀ b, b ≠ t → (h.update t (Obj.mapFields (·.setIfInBounds 3 y))).get? b = h.get? b := fun b nb => Heap.get?_update_other _ _ (Ne.symm nb)
  exact ⟨⟨oe, vs, (o1 e (Ne.symm ne)).trans he, hc, hdi, hd, h2, h1, ne, _, _, s1, d1, by simp [hs]⟩, o1⟩
section
variable {M : Model} {A : Around} {E : Value → Shared → Prop} {s : Shared}
theorem setf {e t : Addr} {cls fl y : Value} {Q : Unit → Shared → Prop} (x : ExAt s.heap e cls (some t) fl) (h : Q () { s with heap := s.heap.update t (Obj.mapFields (·.setIfInBounds 3 y)) }) : wpAny M A (setField (.ref t) 3 y) Q E s := by
  obtain ⟨oe, vs, he, hc, hdi, hd, h2, h1, ne, oT, ts, hT, hdT, h3⟩ := x.ex
  exact wpAny_setField hT hdT (Array.getElem?_eq_some_iff.mp h3).1 h
theorem field1 {e t : Addr} {cls fl : Value} {Q : Value → Shared → Prop} (x : ExAt s.heap e cls (some t) fl) (h : Q (.ref t) s) : wpAny M A (field (.ref e) 1) Q E s := by
  obtain ⟨oe, vs, he, hc, hdi, hd, h2, h1, _⟩ := x.ex
  exact wpAny_field he hd h1 h
/-- out of flight -/
theorem flight_x {e t : Addr} {cls fl : Value} {Q : Unit → Shared → Prop} (x : ExAt s.heap e cls (some t) fl)
    (h : ∀ h', ExAt h' e cls (some t) .none → (∀ b, b ≠ t → h'.get? b = s.heap.get? b) → Q () { s with heap := h' }) : wpAny M A (setFlight (.ref e) none) Q E s := by
  unfold setFlight
  refine wpAny_bind (field1 x ?_)
  rw [if_pos (show (Value.ref t != Value.none) = true from by simp)]
  obtain ⟨a, b⟩ := upd_flight (y := .none) x
  exact setf x (h _ a b)
theorem tail_x {base : Heap} {env : Env} {outer : List Env} {L e : Addr} {oe : Obj} {vs : Array Value} {head : Value} {hn : Bool} {Q : Unit → Shared → Prop} (hfr : A.frames = some (env :: outer)) (hl : s.heap.FunFrames base (env :: outer)) (hf : env.frame = some L)
    (he : s.heap.get? e = some oe) (hdi : oe.dict = none) (hd : oe.data = .fields vs) (hsz : 1 < vs.size) (h2 : vs[2]? = some .none)
    (k : ∀ h' t, s.heap.get? t = none → ExAt h' e oe.cls (some t) (rawInt L) → Moved ((env :: outer).filterMap (·.frame)) e none s.heap h' → Q () { s with heap := h' }) :
    wpAny M A (do let a ← frameOf env; let pl ← entryPlaceOf L hn; let b ← EntryCells.newEntry head a .none (rawInt L) .none pl; setField (.ref e) 1 b) Q E s := by
  have ne : e ∉ (env :: outer).filterMap (·.frame) := fun m => by
    obtain ⟨_, o, ho, hx⟩ := hl.mem m
    rw [he] at ho; cases ho; exact hx vs hd
  refine wpAny_bind (wpAny_frameOf_fun hfr hl hf fun h1 so => ?_)
  refine wpAny_bind (wpAny_entryPlaceOf fun pl hpl => ?_)
  unfold EntryCells.newEntry newFields
  refine wpAny_bind (wpAny_newObj_type ?_ (hpl.sizeOk5 _ _ _ _ _))
  have g1 : h1.get? e = some oe := (so.2.1 e ne).trans he
  have t3 : ([head, Value.ref L, .none, rawInt L, .none] ++ (if pl.isEmpty then List.replicate 6 Value.none else pl)).toArray[3]? = some (rawInt L) := by simp
  obtain ⟨x, kp⟩ := push_upd (ob := { cls := .type "traceback", dict := none, data := .fields ([head, Value.ref L, .none, rawInt L, .none] ++ (if pl.isEmpty then List.replicate 6 Value.none else pl)).toArray }) g1 hdi hd hsz h2 rfl t3
  refine wpAny_setField (Heap.get?_push_of_some _ g1) hd hsz (k _ _ (Heap.get?_none_of_le (by rw [so.1]; exact Nat.le_refl _)) x fun b o q nb _ => ⟨fun m => kp b o nb ((so.2.1 b m).trans q), ?_⟩)
  obtain ⟨sl, q'⟩ := so.2.2 b o q
  exact ⟨sl, kp b _ nb q'⟩
/-- the frame is noted -/
theorem note_x {base : Heap} {env : Env} {outer : List Env} {L e : Addr} {cls fl : Value} {T : Option Addr} {Q : Unit → Shared → Prop} (hfr : A.frames = some (env :: outer)) (hl : s.heap.FunFrames base (env :: outer)) (hf : env.frame = some L)
    (x : ExAt s.heap e cls T fl) (k : ∀ h' t, (T = some t ∨ s.heap.get? t = none) → ExAt h' e cls (some t) (rawInt L) → Moved ((env :: outer).filterMap (·.frame)) e T s.heap h' → Q () { s with heap := h' }) :
    wpAny M A (noteFrame (.ref e) env) Q E s := by
  unfold noteFrame
  simp only [hf]
  cases T with
  | none =>
    obtain ⟨oe, vs, he, rfl, hdi, hd, h2, h1⟩ := x.ex
    refine wpAny_bind (wpAny_field he hd h1 ?_)
    rw [if_neg (by decide)]
    exact tail_x hfr hl hf he hdi hd (Array.getElem?_eq_some_iff.mp h1).1 h2 fun h' t a b c => k h' t (.inr a) b c
  | some t =>
    refine wpAny_bind (field1 x ?_)
    rw [if_pos (show (Value.ref t != Value.none) = true from by simp)]
    obtain ⟨oe, vs, he, hc, hdi, hd, h2, h1, nte, oT, ts, hT, hdT, h3⟩ := x.ex
    refine wpAny_bind (wpAny_field hT hdT h3 ?_)
    by_cases c : (fl == rawInt L) = true
    · rw [if_pos c]
      have c' : fl = rawInt L := by simpa using c
      subst c'
      exact wpAny_pure (k s.heap t (.inl rfl) x (Moved.of_kept fun _ _ _ _ q => q))
    · rw [if_neg c]
      refine wpAny_bind (setf x ?_)
      obtain ⟨x', oth⟩ := upd_flight (y := .none) x
      obtain ⟨oe', vs', he', hc', hdi', hd', h2', h1', _⟩ := x'.ex
      subst hc'
      have recn : ∀ b o, s.heap.get? b = some o → (∀ ws, o.data ≠ .fields ws) → b ≠ t := fun b o hb hx q => by
        rw [q, hT] at hb; cases hb; exact hx ts hdT
      refine tail_x hfr (hl.of_keeps fun b o hb hx => ⟨o, (oth b (recn b o hb hx)).trans hb, rfl⟩) hf he' hdi' hd' (Array.getElem?_eq_some_iff.mp h1').1 h2' fun h' t' a b c => k h' t' ?_ b ?_
      · by_cases z : t' = t
        · exact .inl (by rw [z])
        · exact .inr ((oth t' z).symm.trans a)
      · exact (Moved.of_kept (T := some t) (fun b o n1 n2 q => (oth b (fun z => n2 (by rw [z]))).trans q)).trans c fun _ z => by cases z
end
end Lp
namespace Lp
open PySem
theorem entry_unchain : entryFor table "proto.unchain" = some Builtin.«proto.unchain» := entryFor_of_tree (by kernel_rfl)
section
variable {prog : Program} {w : World} {A : Around} {E : Value → Shared → Prop} {s : Shared}
/-- a new exception is raised within an except suite: the one being handled becomes its context -/
theorem raise_h {α : Type} {a x : Addr} {oa ox : Obj} {va vx : Array Value} {Q : α → Shared → Prop} (hh : A.handled = some (.ref a)) (ha : s.heap.get? a = some oa) (hda : oa.data = .fields va) (h2 : va[2]? = some .none)
    (hx : s.heap.get? x = some ox) (hdx : ox.data = .fields vx) (hsx : 2 < vx.size) (hne : a ≠ x) (h : E (.ref x) { s with heap := s.heap.update x (Obj.mapFields (·.setIfInBounds 2 (.ref a))) }) :
    wpAny (model prog w) A (raiseNew (.ref x) : Sem α) Q E s := by
  unfold raiseNew
  refine wpAny_bind (wpAny_handled ?_)
  rw [hh]
  have hc : (Value.ref a != Value.ref x) = true := by simpa using hne
  dsimp only
  rw [if_pos hc]
  refine wpAny_bind (wpAny_holding (wpAny_runValue (codeAny_builtin entry_unchain ?_)))
  unfold Builtin.«proto.unchain»
  refine wpAny_bind (wpAny_field ha hda h2 ?_)
  rw [if_pos (by decide)]
  refine wpAny_bind (wpAny_pure (wpAny_pure ?_))
  refine wpAny_bind ?_
  unfold updateField
  refine wpAny_bind (wpAny_load hx ?_)
  rw [hdx]
  dsimp only
  rw [if_pos hsx]
  exact wpAny_update hx (wpAny_throw h)
theorem range_end_h {it a : Addr} {oa : Obj} {va : Array Value} {x left step : Int} {Q : Option Value → Shared → Prop} (hh : A.handled = some (.ref a)) (ha : s.heap.get? a = some oa) (hda : oa.data = .fields va) (h2 : va[2]? = some .none)
    (hit : IsRangeIter s.heap it x left step) (hleft : left ≤ 0)
    (hQ : ∀ h', Heap.ExtBut it s.heap h' → Q none { s with heap := h' }) : wpAny (model prog w) A (pyNext (.ref it)) Q E s := by
  have hT : s.TypeIs (.ref it) "range_iterator" := ⟨_, hit, rfl⟩
  unfold pyNext
  refine wpAny_bind (wpAny_attempt (wpAny_callSpecial?_slot (name := Str.ofString "__next__") hT F.slot_range_iterator_next (wpAny_call_entry F.slot_range_iterator_next hT F.entry_range_iterator_next ?_ (F.args_range_iterator_next_1 _))))
  show wpAny _ _ (do let z ← field (.ref it) 0; _) _ _ s
  refine wpAny_bind (wpAny_field hit rfl (x := rawInt x) rfl ?_)
  show wpAny _ _ (do let z ← field (.ref it) 1; _) _ _ s
  refine wpAny_bind (wpAny_field hit rfl (x := rawInt left) rfl ?_)
  show wpAny _ _ (do let z ← field (.ref it) 2; _) _ _ s
  refine wpAny_bind (wpAny_field hit rfl (x := rawInt step) rfl ?_)
  show wpAny _ _ (if left ≤ 0 then _ else _) _ _ s
  rw [if_pos hleft]
  refine wpAny_bind (wpAny_rule (wpAny_bind ?_))
  show wpAny _ _ (do let z ← newExc (.type "StopIteration") []; _) _ _ _
  refine wpAny_bind ?_
  simp only [newExc, newTuple]
  refine wpAny_bind (wpAny_newObj_type ?_ (by size_fits))
  refine wpAny_bind (m := firstArgMember _ _) (wpAny_of_eq (a := Value.none) (by first | rfl | (simp only [firstArgMember]; rfl)) ?_)
  refine wpAny_newObj_type ?_ (by size_fits)
  have lt := Heap.lt_size ha
  refine raise_h (a := a) (x := (s.heap.push _).objs.size) (by first | exact hh | simpa using hh) (Heap.get?_push_of_some _ (Heap.get?_push_of_some _ ha)) hda h2 (Heap.get?_push_size _ rfl) rfl ?_ ?_ ?_
  · simp only [List.size_toArray, Array.size_append]
    show 2 < 6 + _
    omega
  · rw [Heap.size_push]; exact Nat.ne_of_lt (Nat.lt_succ_of_lt lt)
  · refine wpAny_bind (wpAny_isInstance (T := "StopIteration") (b := true) ⟨_, Heap.get?_update_self _ (Heap.get?_push_size _ rfl) rfl, rfl⟩ isSubtype_stop ?_)
    refine wpAny_pure (hQ _ fun b o hb q => ?_)
    have lb := Heap.lt_size q
    rw [Heap.get?_update_other _ _ (by rw [Heap.size_push]; exact Nat.ne_of_gt (Nat.lt_succ_of_lt lb))]
    exact Heap.get?_push_of_some _ (Heap.get?_push_of_some _ q)
end
end Lp
namespace L2
open PySem PySem.Spec PyProof.Rows Lp
/-! EXCEPTIONS over the layer -/
/-- a record of the exception's own -/
structure Young (X : Cx) (pins : List (Addr × Obj)) (H : Hp) (b : Addr) : Prop where
  free : H b = none
  neL : b ≠ X.env.locals
  nofs : b ∉ X.fs
  old : X.s₀.heap.get? b = none
  cells : ∀ x c, X.env.cells.lookup x = some c → c ≠ b
  pins : ∀ p ∈ X.pn ++ pins, p.1 ≠ b
section
variable {X : Cx} {pins : List (Addr × Obj)} {σ : St} {H H' : Hp} {s : Shared} {h' : Heap} {b e : Addr} {T : Option Addr} {cls fl : Value}
theorem young_new (I : Inv X pins σ H s) (hex : X.ex = []) (h : s.heap.get? b = none) (hH : H' b = none) : Young X pins H' b := by
  refine ⟨hH, fun z => ?_, fun z => ?_, ?_, fun x c q z => ?_, fun p hp z => ?_⟩
  · obtain ⟨m, ⟨o, es, ep, ho, _⟩, _⟩ := I.loc
    rw [z, ho] at h; cases h
  · obtain ⟨_, o, ho, _⟩ := I.funs.mem z
    rw [h] at ho; cases ho
  · cases q : X.s₀.heap.get? b with
    | none => rfl
    | some o =>
      obtain ⟨o', ho'⟩ := I.base.there b o q (by rw [hex]; simp)
      rw [h] at ho'; cases ho'
  · obtain ⟨v, o, ho, _⟩ := I.cell x c q
    rw [z, h] at ho; cases ho
  · have := (I.pin p hp).1
    rw [z, h] at this; cases this
/-- the exception's records change, and the frames' slots -/
theorem Inv.moved (I : Inv X pins σ H s) (ye : Young X pins H e) (yT : ∀ t, T = some t → Young X pins H t) (m : Moved (frs X.stack) e T s.heap h') : Inv X pins σ H { s with heap := h' } := by
  have ns : ∀ b, b ≠ X.env.locals → b ∉ X.fs → b ∉ frs X.stack := fun b h1 h2 hb => by
    rcases List.mem_cons.mp (I.stkSub b hb) with z | z
    · exact h1 z
    · exact h2 z
  have neq : ∀ (Pq : Addr → Prop) b, Pq b → (∀ c, Young X pins H c → ¬ Pq c) → b ≠ e ∧ T ≠ some b := fun Pq b hb hn =>
    ⟨fun z => hn e ye (z ▸ hb), fun z => hn b (yT b z) hb⟩
  have old : ∀ b o, X.s₀.heap.get? b = some o → b ≠ e ∧ T ≠ some b := fun b o q => neq (fun c => X.s₀.heap.get? c = some o) b q fun c y z => by rw [y.old] at z; cases z
  have trk : ∀ b u, H b = some u → b ≠ e ∧ T ≠ some b := fun b u q => neq (fun c => H c = some u) b q fun c y z => by rw [y.free] at z; cases z
  have cel : ∀ x c, X.env.cells.lookup x = some c → c ≠ e ∧ T ≠ some c := fun x c q => neq (fun d => X.env.cells.lookup x = some d) c q fun d y z => y.cells x d z rfl
  have isc : ∀ x c v, X.env.cells.lookup x = some c → s.heap.IsCell c v → h'.IsCell c v := fun x c v q ⟨o, ho, hd⟩ => by
    obtain ⟨sl, hs⟩ := (m c o ho (cel x c q).1 (cel x c q).2).2
    exact ⟨_, hs, hd⟩
  refine ⟨I.ok, I.os, I.bare, ⟨fun b o q n hb hx => ?_, fun b o q n hb hx => ?_, I.base.free, fun b o q hx => ?_, I.base.tups, I.base.frzs, I.base.tbls⟩, ?_, fun x c q => ?_, I.free, I.freeC, fun p hp => ?_, fun a o q => ?_, I.len⟩
  · have lt : b ≠ X.env.locals := Nat.ne_of_lt (Nat.lt_of_lt_of_le (Heap.lt_size q) I.ok.above)
    exact (m b o (I.base.keep b o q n hb hx) (old b o q).1 (old b o q).2).1 (ns b lt hb)
  · obtain ⟨sl, e1⟩ := I.base.slot b o q n hb hx
    obtain ⟨sl', e2⟩ := (m b _ e1 (old b o q).1 (old b o q).2).2
    exact ⟨sl', e2⟩
  · obtain ⟨o', e1⟩ := I.base.there b o q hx
    obtain ⟨sl', e2⟩ := (m b _ e1 (old b o q).1 (old b o q).2).2
    exact ⟨_, e2⟩
  · obtain ⟨mm, ⟨o, es, ep, ho, hd, r⟩, hl⟩ := I.loc
    have nl : X.env.locals ≠ e ∧ T ≠ some X.env.locals := neq (fun c => c = X.env.locals) _ rfl fun c y z => y.neL z
    obtain ⟨sl, hs⟩ := (m _ o ho nl.1 nl.2).2
    refine ⟨mm, ⟨_, es, ep, hs, hd, r⟩, fun i x v h1 h2 h3 => ?_⟩
    obtain ⟨u, ru, lk⟩ := hl i x v h1 h2 h3
    refine ⟨u, ru, ?_⟩
    rcases lk with lk | ⟨k, c, ec, ic⟩
    · exact .inl lk
    · exact .inr ⟨k, c, ec, isc x c _ ec ic⟩
  · obtain ⟨v, ic⟩ := I.cell x c q
    exact ⟨v, isc x c v q ic⟩
  · obtain ⟨p1, p2, p3, p4, p5⟩ := I.pin p hp
    have np : p.1 ≠ e ∧ T ≠ some p.1 := neq (fun c => c = p.1) _ rfl fun c y z => y.pins p hp z.symm
    exact ⟨(m _ _ p1 np.1 np.2).1 (ns _ p3 p4), p2, p3, p4, p5⟩
  · refine (I.hok a o q).stay (fun b u hb r => ?_) (fun _ z => z) fun _ _ z => z
    have hb' : ∃ v, H b = some v := by
      rcases hb with rfl | hb
      · exact ⟨_, q⟩
      · exact ⟨_, hb⟩
    obtain ⟨v, hv⟩ := hb'
    refine (m b u r (trk b v hv).1 (trk b v hv).2).1 fun hm => ?_
    have := I.stkFree b hm
    rw [hv] at this; cases this
theorem tracked_there {P : Program} {w : World} {H : Hp} {h : Heap} {e : Addr} {o : HO} (z : ObjOk P w H h e o) : ∃ o', h.get? e = some o' := by
  cases o with
  | lst xs => obtain ⟨_, _, _, _, e1⟩ := z; exact ⟨_, e1⟩
  | tup xs => obtain ⟨_, _, _, o1, e1, _⟩ := z; exact ⟨_, e1⟩
  | dK kvs => obtain ⟨_, _, _, _, o1, _, _, e1, _⟩ := z; exact ⟨_, e1⟩
  | dT kvs => obtain ⟨_, _, _, _, o1, _, _, e1, _⟩ := z; exact ⟨_, e1⟩
  | set S n => obtain ⟨o1, _, _, _, e1, _⟩ := z; exact ⟨_, e1⟩
  | ins C dx fs => obtain ⟨_, _, _, e1, _⟩ := z; exact ⟨_, e1⟩
  | own y => obtain ⟨_, e1⟩ := z; exact ⟨_, e1⟩
  | xd fs => obtain ⟨_, ⟨_, _, _, e1, _⟩, _⟩ := z; exact ⟨_, e1⟩
  | rng lo hi => obtain ⟨_, _, _, e1⟩ := z; exact ⟨_, e1⟩
  | frz ob u => obtain ⟨e1, _⟩ := z; exact ⟨_, e1⟩
  | tbl ps => exact ⟨_, z⟩
  | met f y => exact ⟨_, z⟩
  | ext φ => obtain ⟨_, ⟨_, e1⟩, _⟩ := z; exact ⟨_, e1⟩
theorem Inv.untracked (I : Inv X pins σ H s) (h : s.heap.get? b = none) : H b = none := by
  cases q : H b with
  | none => rfl
  | some o =>
    obtain ⟨o', e1⟩ := tracked_there (I.hok b o q)
    rw [h] at e1; cases e1
/-- an exception stands in this state -/
structure Ext (X : Cx) (pins : List (Addr × Obj)) (H : Hp) (s : Shared) (e : Addr) (cls : Value) : Prop where
  ex : ∃ T fl, ExAt s.heap e cls T fl ∧ Young X pins H e ∧ ∀ t, T = some t → Young X pins H t
theorem Ext.made (I : Inv X pins σ H s) (hex : X.ex = []) {args : List Value} (x : Heap.MadeExcOf s.heap h' e cls args) : Ext X pins H { s with heap := h' } e cls := by
  obtain ⟨t, he, _, _⟩ := x.there
  have hH : H e = none := I.untracked x.new
  exact ⟨none, .none, ⟨_, _, he, rfl, rfl, rfl, rfl, rfl⟩, young_new I hex x.new hH, fun t z => by cases z⟩
end
/-- how an exception lies behind a call -/
def CXE (P : Program) (w : World) : CXT := fun outer H s E ev s' => ∃ (a : Addr) (cls : Value) (H' : Hp) (T : Option Addr) (fl : Value), ev = .ref a ∧ s'.os = s.os ∧ AllBare s'.gens ∧ Un (frs outer) [] H H' s.heap s'.heap ∧ HOk P w H' s'.heap ∧
  ExAt s'.heap a cls T fl ∧ s.heap.get? a = none ∧ H' a = none ∧ (∀ t, T = some t → s.heap.get? t = none ∧ H' t = none) ∧ E cls none H'
/-- what an exception that leaves this code must meet -/
def Throws (X : Cx) (G : St → Value → Hp → Prop) : Prop := ∀ (pins : List (Addr × Obj)) (σ : St) (H : Hp) (s : Shared) (e : Addr) (cls : Value), Inv X pins σ H s → Ext X pins H s e cls → G σ cls H → X.xe (.ref e) s
section
variable {X : Cx} {E : XK}
/-- out of a def -/
theorem throws_def (hxe : X.xe = fun e s' => wpAny (model X.prog X.w) X.A (leaving X.env e) (fun _ s'' => CXE X.prog X.w X.outer X.H₀ X.s₀ E e s'') (fun e' s'' => CXE X.prog X.w X.outer X.H₀ X.s₀ E e' s'') s')
    (hs : X.stack = X.env :: X.outer) (hf : X.env.frame = some X.env.locals) (hex : X.ex = []) : Throws X (fun _ cls H => E cls none H) := by
  intro pins σ H s e cls I x h
  obtain ⟨T, fl, x, ye, yT⟩ := x.ex
  rw [hxe]
  have hst : s.heap.FunFrames X.base (X.env :: X.outer) := hs ▸ I.stack
  show wpAny _ _ (leaving X.env (.ref e)) _ _ s
  unfold leaving
  refine wpAny_bind (note_x (hs ▸ I.ok.frames) hst hf x fun h1 t ht x1 m1 => ?_)
  have hfs : frs X.stack = (X.env :: X.outer).filterMap (·.frame) := by rw [hs]; rfl
  have I1 : Inv X pins σ H { s with heap := h1 } := I.moved ye yT (by rw [hfs]; exact m1)
  have yt : Young X pins H t := by
    rcases ht with z | z
    · exact yT t z
    · exact young_new I hex z (I.untracked z)
  refine flight_x x1 fun h2 x2 oth => ?_
  have I2 : Inv X pins σ H { s with heap := h2 } := Inv.moved (s := { s with heap := h1 }) (h' := h2) (T := some t) I1 ye (fun t' z => by cases z; exact yt) (Moved.of_kept fun b o _ n2 q => (oth b (fun z => n2 (by rw [z]))).trans q)
  exact ⟨e, cls, H, some t, .none, rfl, I2.os, I2.bare, by have := I2.base; rw [hex] at this; exact this, I2.hok, x2, ye.old, ye.free, fun t' z => by cases z; exact ⟨yt.old, yt.free⟩, h⟩
end
end L2
namespace Lp
open PySem PySem.W
/-- what the classes of our exceptions are -/
structure ExcK (K : Frag) (D : Addr) : Prop where
  ga : findIn K (.ref D) "__getattribute__" = some (some (.builtin "BaseException.__getattribute__"))
  gt : findIn K (.ref D) "__getattr__" = some none
  cl : findIn K (.ref D) "__class__" = some (some (.builtin "object.__class__"))
  mo : mroIn K D (.type "object") = some true
  mb : mroIn K D (.type "BaseException") = some true
section
variable {prog : Program} {w : World} {A : Around} {E : Value → Shared → Prop} {s : Shared} {K : Frag} {x D : Addr} {ox : Obj}
theorem exc_entry {tk : Tok} {Q : Fin → Shared → Prop} (X : K.In s.heap) (I : InstAt s.heap x ox D none) (k : ExcK K D) (h : Q (.done (.ret (.ref D))) s) :
    wpAny (model prog w) A (Builtin.«object.__getattribute__» ⟨[.ref x, .str "__class__" tk], []⟩) Q E s := by
  obtain ⟨hh, g, dr, t, os⟩ := s
  have L0 := I.type (M := model prog w)
  have L1 := looks_findIn (M := model prog w) X k.cl
  have f5 := F.typeOf_object_class
  have f6 := F.slot_gs_get.lookup
  have f7 := F.slot_gs_set.lookup
  repeat (any_goals (first | assumption | with_reducible refine L0.at ?_ | with_reducible refine L1.at ?_ | wp_step))
  refine class_get (od := none) (ox := ox) X I k.mo ?_
  repeat (any_goals (first | assumption | wp_step))
theorem exc_check {M : Model} {nameV : Value} {Q : Unit → Shared → Prop} (X : K.In s.heap) (I : InstAt s.heap x ox D none) (k : ExcK K D) (h : Q () s) : wpAny M A (checkBuiltinCall "BaseException.__getattribute__" ⟨[.ref x, nameV], []⟩) Q E s := by
  obtain ⟨hh, g, dr, t, os⟩ := s
  have hk : builtinKind "BaseException.__getattribute__" = some .slot := by decide +kernel
  have hsplit : splitId "BaseException.__getattribute__" = some ("BaseException", "__getattribute__") := by decide +kernel
  have ha := F.args_bexc_ga (.ref x) nameV
  have L0 := I.type (M := M)
  have L1 := looks_mroIn (M := M) X k.mb
  simp only [checkBuiltinCall, hk, hsplit]
  refine wpAny_bind ?_
  · unfold isInstance
    repeat (first | with_reducible refine L0.at ?_ | with_reducible refine L1.at ?_ | wp_step)
    exact h
theorem exc_call {tk : Tok} {R : Result → Shared → Prop} (X : K.In s.heap) (I : InstAt s.heap x ox D none) (k : ExcK K D) (h : R (.ok (.ret (.ref D))) s) :
    codeAny (model prog w) A (.call (.builtin "BaseException.__getattribute__") ⟨[.ref x, .str "__class__" tk], []⟩) R s :=
  codeAny_call_builtin F.attr_ValueError.ga.plain F.entry_bexc_ga (exc_check X I k (exc_entry X I k h))
theorem exc_by {tk : Tok} {Q : Value → Shared → Prop} (X : K.In s.heap) (I : InstAt s.heap x ox D none) (k : ExcK K D) (h : Q (.ref D) s) : wpAny (model prog w) A (getAttrBy (.ref x) (.str "__class__" tk) false) Q E s := by
  obtain ⟨hh, g, dr, t, os⟩ := s
  have L0 := I.type (M := model prog w)
  have L1 := looks_findIn (M := model prog w) X k.ga
  have L2 := looks_findIn (M := model prog w) X k.gt
  have f3 := F.attr_ValueError.ga.bind (.ref x)
  have hx2 : (Value.builtin "BaseException.__getattribute__" == Value.builtin "object.__getattribute__") = false := by decide +kernel
  have hx1 : (onTheHeap (Value.ref D) && Value.builtin "BaseException.__getattribute__" == Value.builtin "object.__getattribute__") = false := by rw [hx2]; rfl
  repeat (any_goals (first | assumption | with_reducible refine L0.at ?_ | with_reducible refine L1.at ?_ | with_reducible refine L2.at ?_ | wp_step))
  refine exc_call X I k ?_
  repeat (any_goals (first | assumption | wp_step))
theorem exc_class {Q : Option Value → Shared → Prop} (X : K.In s.heap) (I : InstAt s.heap x ox D none) (k : ExcK K D) (h : Q (some (.ref D)) { s with toks := s.toks + 1 }) : wpAny (model prog w) A (getAttr? (.ref x) "__class__") Q E s := by
  obtain ⟨hh, g, dr, t, os⟩ := s
  unfold getAttr? getAttrBy?
  refine wpAny_bind (wpAny_mkText (wpAny_bind (wpAny_attempt ?_)))
  exact exc_by (s := ⟨hh, g, dr, t + 1, os⟩) X I k (wpAny_pure h)
end
end Lp
namespace L2
open PySem PySem.Spec PyProof.Rows Lp
/-! calls that may raise -/
def tCallE (sp : Sp) (G : St → Value → Hp → Prop) (t : TA) : TE := fun σ H Q => t σ H fun vs H1 => sp vs H1 Q (fun cls _ H' => G σ cls H')
section
variable {X : Cx} {k : Nat} {x : Str} {ps : List Str} {sp : Sp} {G : St → Value → Hp → Prop} {e : Expr} {es : List Expr} {t : TA} {p pos np cpos : Pos} {f C : Addr} {fd : FuncData}
theorem run_fnE {pins : List (Addr × Obj)} {σ : St} {H : Hp} {s : Shared} {Q : VK} {us : List Value} {vs : List V} (F : FnOk X.prog X.w X.K X.mg X.base (CXE X.prog X.w) k f fd ps sp) (hr : Room k X.A) (hb : Binds X.K fd ps []) (Th : Throws X G) (hex : X.ex = [])
    (I : Inv X pins σ H s) (r : Vals vs us) (h : sp vs H Q (fun cls _ H' => G σ cls H')) : wpAny (model X.prog X.w) X.A (call (.ref f) us) (EP X pins σ Q) X.xe s := by
  have hl : us.length = ps.length := by rw [← r.length]; exact F.len _ _ _ _ h
  have hb' := hb s us I.kIn (by rw [List.append_nil]; exact hl)
  rw [List.append_nil] at hb'
  refine wpAny_call (codeAny_mono (F.run X.A X.stack s H ⟨us, []⟩ us vs Q _ hr I.env0 hb' r h) fun r s' hq => ?_)
  cases r with
  | error e =>
    obtain ⟨a, cls, H', T, fl, rfl, os, bare, un, hok, x, na, ha, nT, g⟩ := hq
    have I' : Inv X pins σ H' s' := I.call' os un hok bare fun b z => absurd z (by simp)
    exact Th pins σ H' s' a cls I' ⟨T, fl, x, young_new I hex na ha, fun t z => young_new I hex (nT t z).1 (nT t z).2⟩ g
  | ok fl =>
    cases fl with
    | ret u => exact I.after hq
    | next => exact False.elim hq
    | brk => exact False.elim hq
    | cont => exact False.elim hq
theorem pe_calE (Cl : Cal X.prog X.w X.K X.mg X.base (CXE X.prog X.w) k x ps sp) (Th : Throws X G) (hr : Room k X.A) (hg : Gl X x) (ha : PA X (e :: es) t) (hex : X.ex = [] := by rfl) (hdb : (x == ("__debug__" : Str)) = false := by decide)
    (he : starEach (e :: es) X.env = (false, eval e X.env) :: starEach es X.env := by rfl) (hpl : (backTo pos (starEach es X.env)).any (·.1) = false := by rfl) : PE X (.Call (.Name x p) (e :: es) [] pos) (tCallE sp G t) := by
  obtain ⟨f, fd, F, b, m, kk, _⟩ := Cl.ex
  intro pins s σ H Q I h
  refine wpAny_Call_Name_kw (ld_glob I hg m ?_ hdb)
  refine PySem.W.callWith_K (h₀ := X.base) I.ok.mod.kin kk (thn (ha pos pins s σ H _ I h) fun us s1 ⟨vs, H1, I1, r, q⟩ => ⟨I1.kIn, ?_⟩) he hpl
  exact run_fnE F hr b Th hex I1 r q
end
section
variable {P : Program} {w : World} {K : PySem.W.Frag} {mg : Str → Option Value} {base : Heap} {CX : CXT} {x : Str} {ps : List Str} {st : Stmt} {sp : Sp} {N : List Str} {k : Nat} {f : Addr} {fd : FuncData}
theorem FnOk.down (F : FnOk P w K mg base (CXE P w) k f fd ps sp) : FnOk P w K mg base CX0 k f fd ps (fun vs H Q _ => sp vs H Q E0) := by
  refine ⟨fun vs H Q E h => F.len vs H Q E0 h, fun A outer s H args us vs Q E hr he hb hv h => codeAny_mono (F.run A outer s H args us vs Q E0 hr he hb hv h) fun r s' q => ?_⟩
  cases r with
  | error e =>
    obtain ⟨_, _, _, _, _, _, _, _, _, _, _, _, _, _, g⟩ := q
    exact g.elim
  | ok fl => cases fl <;> exact q
theorem FnOk.up (F : FnOk P w K mg base CX0 k f fd ps sp) : FnOk P w K mg base CX k f fd ps sp := by
  refine ⟨F.len, fun A outer s H args us vs Q E hr he hb hv h => codeAny_mono (F.run A outer s H args us vs Q E hr he hb hv h) fun r s' q => ?_⟩
  cases r with
  | error e => exact (show False from q).elim
  | ok fl => cases fl <;> exact q
theorem Cal.down (C : Cal P w K mg base (CXE P w) k x ps sp) : Cal P w K mg base CX0 k x ps (fun vs H Q _ => sp vs H Q E0) := by
  obtain ⟨f, fd, F, r⟩ := C.ex
  exact ⟨f, fd, F.down, r⟩
theorem Cal.up (C : Cal P w K mg base CX0 k x ps sp) : Cal P w K mg base CX k x ps sp := by
  obtain ⟨f, fd, F, r⟩ := C.ex
  exact ⟨f, fd, F.up, r⟩
theorem Df.okE (D : Df K mg x ps st) (S : FnScope N ps (defScope st)) (len : ∀ vs H Q E, sp vs H Q E → vs.length = ps.length)
    (hbody : ∀ (f : Addr) (cdv : Value) (A : Around) (outer : List Env) (s : Shared) (H : Hp) (vs : List V) (Q : VK) (E : XK), Room k (A.deeper (envOfC x (defScope st) s.heap.objs.size f cdv)) → sp vs H Q E →
      ∃ t, PSs (cxOf (CXE P w) P w K mg base N x (defScope st) f cdv A outer s H E) (defBody st) t ∧ t { nx := fun _ H' => Q .non H', rt := Q } (start N vs) H) : Cal P w K mg base (CXE P w) (k + 1) x ps sp := by
  obtain ⟨f, fd, F, b, m⟩ := D.ex
  obtain ⟨oc, od, kV, doc, pm, an, cdv, ct, osl, e1, e2, e3⟩ := id F.ex
  subst e1
  exact ⟨f, _, fn_of e2 e3 S len (fun A outer s H vs Q E hr h => hbody f cdv A outer s H vs Q E hr h), b, m, F.kp, oc, od, osl, e2⟩
theorem throws_cx {qual : Str} {scope : Scope} {cdv : Value} {A : Around} {outer : List Env} {s : Shared} {H : Hp} {E : XK} : Throws (cxOf (CXE P w) P w K mg base N qual scope f cdv A outer s H E) (fun _ cls H' => E cls none H') := throws_def rfl rfl rfl rfl
end
/-! ### raise -/
/-- an own exception class, straight or not under ValueError -/
structure XC (K : PySem.W.Frag) (mg : Str → Option Value) (x : Str) (C : Addr) : Prop where
  bound : mg x = some (.ref C)
  own : PySem.W.excIn K C [.type "ValueError", .type "Exception", .type "BaseException", .type "object"] "ValueError.__new__" = true
theorem own_obj {K : PySem.W.Frag} {h : Heap} {C : Addr} {bmB : List Value} {newId : String} (X : K.In h) (q : PySem.W.excIn K C bmB newId = true) : ∃ bm N nm qn bs hd sn sub ab col dd k0 k1 k2 k3 k5 mN,
    h.get? C = some (excClassObj nm qn C N bs bm hd sn sub ab col dd k0 k1 k2 k3 k5 newId) ∧ h.Ns N mN ∧ mN "__init__" = none ∧ OwnTail h bmB bm := by
  unfold PySem.W.excIn at q
  split at q
  · rename_i dd cd sl ho
    split at q
    · rename_i D bm k0 k1 k2 k3 n k5 em es
      simp only [Bool.and_eq_true, beq_iff_eq, Bool.not_eq_true'] at q
      obtain ⟨⟨⟨⟨⟨rfl, rfl⟩, z1⟩, z2⟩, z3⟩, z4⟩ := q
      obtain ⟨nm, bs, mr, ns, qn, hd, sn, sub, ab, col, del⟩ := cd
      dsimp only at em z1 z3 z4
      subst em z1
      have esl : sl = #[k0, k1, k2, k3, some (.builtin n), k5] := by
        obtain ⟨l⟩ := sl
        simp only at es
        rw [es]
      subst esl
      refine ⟨bm, ns, nm, qn, bs, hd, sn, sub, ab, col, dd, k0, k1, k2, k3, k5, _, X _ _ ho, .of_isNs (PySem.W.isNs_of_in X z3), ?_, PySem.W.tail_of_in X z2⟩
      exact PySem.W.nsMap_none_of_in X z3 z4
    · cases q
  · cases q
section
variable {X : Cx} {x : Str} {C : Addr} {G : St → Value → Hp → Prop} {e : Expr} {es : List Expr} {t : TA} {pos np cpos : Pos}
theorem ps_raise (O : XC X.K X.mg x C) (Th : Throws X G) (hg : Gl X x) (ha : PA X (e :: es) t) (hc : X.calm = true := by rfl) (hex : X.ex = [] := by rfl) (hdb : (x == ("__debug__" : Str)) = false := by decide)
    (he : starEach (e :: es) X.env = (false, eval e X.env) :: starEach es X.env := by rfl) (hpl : (backTo cpos (starEach es X.env)).any (·.1) = false := by rfl) :
    PS X (.Raise (some (.Call (.Name x np) (e :: es) [] cpos)) none pos) (fun _ σ H => t σ H fun vs H1 => vs.length ≤ sizeLine ∧ G σ (.ref C) H1) := by
  intro pins s σ H D I h
  obtain ⟨tl, N, nm, q, bs, hd, sn, sub, ab, col, dd, k0, k1, k2, k3, k5, mN, hC, hN, hni, T⟩ := own_obj I.ok.mod.kin O.own
  refine wpAny_Raise_call_subT (C := C) (nm := nm) (q := q) (N := N) (bs := bs) (bm := tl) (hdct := hd) (sn := sn) (sub := sub) (ab := ab) (col := col) (dd := dd) (k0 := k0) (k1 := k1) (k2 := k2) (k3 := k3) (k5 := k5)
    PySem.F.excBase_ValueError (mN := mN) (T.hasType PySem.F.excBase_ValueError.hasBase) (I.ok.hd hc) ?_ hni (ld_glob I hg O.bound ⟨rfl, ?_⟩ hdb)
  · rw [he]
    show (false || (backTo cpos (starEach es X.env)).any (·.1)) = false
    rw [hpl]
    rfl
  have hA := ha cpos pins s σ H _ I h
  rw [he] at hA ⊢
  refine Calls.evalArgs_plain (thn hA fun us s2 ⟨vs, H2, I2, r2, z, g⟩ => ⟨rfl, by rw [← r2.length]; exact z, I2.bk _ _ hC, hN.keeps I2.bk, T.keeps I2.bk, fun h' ea hm => ?_⟩)
  have I3 : Inv X pins σ H2 { s2 with heap := h' } := I2.kept (t' := s2.toks) hm.keeps
  obtain ⟨T', fl', x1, x2, x3⟩ := (Ext.made I2 hex hm).ex
  exact Th pins σ H2 _ ea (.ref C) I3 ⟨T', fl', x1, x2, x3⟩ g
end
/-! ### f-strings of constants and ints -/
def PJ (X : Cx) (es : List Expr) (n : Nat) (t : St → Hp → Prop) : Prop := ∀ (pins : List (Addr × Obj)) (s : Shared) (σ : St) (H : Hp) (out : Str), Inv X pins σ H s → t σ H → out.length + n ≤ sizeLine →
  wpAny (model X.prog X.w) X.A (joinParts out (evalEach es X.env)) (fun v s' => ∃ y tk, v = .str y tk ∧ Inv X pins σ H s') X.xe s
section
variable {X : Cx} {es : List Expr} {n : Nat} {t : St → Hp → Prop} {e v1 v2 : Expr} {te : TE} {pos : Pos}
theorem pj_nil : PJ X [] 0 (fun _ _ => True) := fun pins s σ H out I _ hz => joinParts_nil ⟨_, _, rfl, I.tok _⟩ (by omega)
theorem pj_str {c : Str} {j pos'} (h : PJ X es n t) : PJ X (.Constant (.str c) j pos' :: es) (c.length + n) t := by
  intro pins s σ H out I ht hz
  show wpAny _ _ (joinParts out (eval (.Constant (.str c) j pos') X.env :: evalEach es X.env)) _ _ s
  refine joinParts_cons (Calls.Constant_str ⟨?_, ?_⟩)
  · rw [strLen_append]; omega
  · exact h pins _ σ H _ (I.tok _) ht (by rw [strLen_append]; omega)
theorem pj_int {p' : Pos} (he : PE X e te) (h : PJ X es n t) : PJ X (.FormattedValue e (-1) none p' :: es) (2000 + n) (fun σ H => te σ H fun x H' => H' = H ∧ ∃ i, x = .int i ∧ i.natAbs.log2 < 1920 ∧ t σ H) := by
  intro pins s σ H out I ht hz
  show wpAny _ _ (joinParts out (eval (.FormattedValue e (-1) none p') X.env :: evalEach es X.env)) _ _ s
  refine joinParts_cons (FormattedValue_plain (thn (he pins s σ H _ I ht) fun v s1 ⟨x, H1, I1, r1, e1, i, e2, hi, q⟩ => ?_))
  subst e1; subst e2
  obtain ⟨tk, rfl⟩ := r1
  have hl : (Str.ofString (toString i)).length ≤ 1921 := by
    have := int_text_length_le (a := i) (k := 1920) (by decide) hi
    rw [PySem.ofString_length]
    exact this
  refine formatField_int_small hi ⟨?_, ?_⟩
  · rw [strLen_append]; omega
  · exact h pins _ σ H1 _ (I1.tok _) q (by rw [strLen_append]; omega)
theorem pe_fstr (h : PJ X (v1 :: v2 :: es) n t) (hn : n ≤ 1000000) : PE X (.JoinedStr (v1 :: v2 :: es) pos) (fun σ H Q => t σ H ∧ ∀ y, Q (.str y) H) := by
  intro pins s σ H Q I ⟨ht, hq⟩
  refine JoinedStr_many (thn (h pins s σ H Str.empty I ht ?_) fun v s' ⟨y, tk, e, I'⟩ => ?_)
  · have e : sizeLine = 16777216 := PySem.sizeLine_eq
    rw [e]
    show 0 + n ≤ _
    omega
  · subst e
    exact ⟨.str y, H, I', ⟨_, rfl⟩, hq y⟩
end
end L2
namespace L2
open PySem PySem.Spec PyProof.Rows Lp
/-! TRY .. EXCEPT .. AS: the suite returns -/
/-- the exception that is handled: its object, no context -/
structure Hx (oe : Obj) : Prop where
  dict : oe.dict = none
  ex : ∃ vs, oe.data = .fields vs ∧ vs[2]? = some .none
abbrev Cx.tryC (X : Cx) (pins : List (Addr × Obj)) (xe : Value → Shared → Prop) : Cx := { X with pn := X.pn ++ pins, xe := xe }
/-- within the except suite: e is handled -/
abbrev Cx.sui (X : Cx) (A : Around) (pn : List (Addr × Obj)) : Cx := { X with A := A, calm := false, pn := pn, xe := fun _ _ => False }
section
variable {X : Cx} {pins pins' pn : List (Addr × Obj)} {σ : St} {H : Hp} {s : Shared} {xe : Value → Shared → Prop} {A : Around}
theorem Cx.Ok.tryC (ok : X.Ok) : (X.tryC pins xe).Ok :=
  ⟨ok.mod, ok.kind, ok.glob, ok.blt, ok.above, ok.inj, ok.has, ok.cab, ok.hd, ok.frames, ok.stk, ok.exf, ok.bs, ok.bsz, ok.noex, ok.exfs, ok.funs, ok.frf⟩
theorem Cx.Ok.untry (ok : (X.tryC pins xe).Ok) : X.Ok :=
  ⟨ok.mod, ok.kind, ok.glob, ok.blt, ok.above, ok.inj, ok.has, ok.cab, ok.hd, ok.frames, ok.stk, ok.exf, ok.bs, ok.bsz, ok.noex, ok.exfs, ok.funs, ok.frf⟩
theorem Inv.tryC (I : Inv X pins σ H s) (xe : Value → Shared → Prop) : Inv (X.tryC pins xe) [] σ H s :=
  ⟨I.ok.tryC, I.os, I.bare, I.base, I.loc, I.cell, I.free, I.freeC, fun p hp => I.pin p (by rw [List.append_nil] at hp; exact hp), I.hok, I.len⟩
theorem Inv.untry (I : Inv (X.tryC pins xe) pins' σ H s) : Inv X pins σ H s :=
  ⟨I.ok.untry, I.os, I.bare, I.base, I.loc, I.cell, I.free, I.freeC, fun p hp => I.pin p (List.mem_append_left _ hp), I.hok, I.len⟩
theorem Inv.sui (I : Inv X pins σ H s) (hA : A.frames = X.A.frames) (hp : ∀ p ∈ pn, s.heap.get? p.1 = some p.2 ∧ H p.1 = none ∧ p.1 ≠ X.env.locals ∧ p.1 ∉ X.fs ∧ ∀ v, p.2.data ≠ .cell v) : Inv (X.sui A pn) [] σ H s :=
  ⟨⟨I.ok.mod, I.ok.kind, I.ok.glob, I.ok.blt, I.ok.above, I.ok.inj, I.ok.has, I.ok.cab, fun h => (Bool.false_ne_true h).elim, hA.trans I.ok.frames, I.ok.stk, I.ok.exf, I.ok.bs, I.ok.bsz, I.ok.noex, I.ok.exfs, I.ok.funs, I.ok.frf⟩,
    I.os, I.bare, I.base, I.loc, I.cell, I.free, I.freeC, fun p hq => hp p (by rw [List.append_nil] at hq; exact hq), I.hok, I.len⟩
theorem Inv.unsui (I : Inv (X.sui A pn) pins' σ H s) (ok : X.Ok) (hp : ∀ p ∈ X.pn ++ pins, p ∈ pn) : Inv X pins σ H s :=
  ⟨ok, I.os, I.bare, I.base, I.loc, I.cell, I.free, I.freeC, fun p hq => I.pin p (List.mem_append_left _ (hp p hq)), I.hok, I.len⟩
theorem Inv.forgot {h' : Heap} {m : Str → Option Value} {t' : Nat} (I : Inv X pins σ H s) (hn : h'.Ns X.env.locals m) (sb : Heap.SameBut X.env.locals s.heap h') : Inv X pins (List.replicate X.N.length none) H { s with heap := h', toks := t' } := by
  have oth : ∀ b o, b ≠ X.env.locals → s.heap.get? b = some o → h'.get? b = some o := fun b o n q => (sb.2 b n).trans q
  refine ⟨I.ok, I.os, I.bare, ⟨fun b o q n hb hx => ?_, fun b o q n hb hx => ?_, I.base.free, fun b o q hx => ?_, I.base.tups, I.base.frzs, I.base.tbls⟩, ⟨m, hn, fun i x v _ h => by rw [List.getElem?_replicate] at h; split at h <;> cases h⟩, fun x c q => ?_, I.free, I.freeC,
    fun p hp => ?_, fun a o q => ?_, List.length_replicate⟩
  · exact oth b o (Nat.ne_of_lt (Nat.lt_of_lt_of_le (Heap.lt_size q) I.ok.above)) (I.base.keep b o q n hb hx)
  · obtain ⟨sl, e⟩ := I.base.slot b o q n hb hx
    exact ⟨sl, oth b _ (Nat.ne_of_lt (Nat.lt_of_lt_of_le (Heap.lt_size q) I.ok.above)) e⟩
  · obtain ⟨o', e⟩ := I.base.there b o q hx
    exact ⟨o', oth b _ (Nat.ne_of_lt (Nat.lt_of_lt_of_le (Heap.lt_size q) I.ok.above)) e⟩
  · obtain ⟨v, o, ho, hd⟩ := I.cell x c q
    exact ⟨v, o, oth c o (I.cne x c q) ho, hd⟩
  · obtain ⟨a1, a2, a3, a4, a5⟩ := I.pin p hp
    exact ⟨oth _ _ a3 a1, a2, a3, a4, a5⟩
  · refine (I.hok a o q).stay (fun b u hb r => oth b u (fun z => ?_) r) (fun _ z => z) fun _ _ z => z
    have fr := I.free
    rw [← z] at fr
    rcases hb with rfl | hb
    · rw [q] at fr; cases fr
    · rw [hb] at fr; cases fr
end
section
variable {X : Cx} {xn n : Str} {C0 : Addr} {body : List Stmt} {b₀ : Stmt} {suite : List Stmt} {np hpos pos : Pos} {i : Nat}
def xeTry (X : Cx) (pins : List (Addr × Obj)) (D : Ends) (hs : List ExceptHandler) : Value → Shared → Prop := fun ev s' =>
  wpAny (model X.prog X.w) X.A (noteFrame ev X.env) (fun _ s₂ => wpAny (model X.prog X.w) X.A (setFlight ev none) (fun _ s₃ => wpAny (model X.prog X.w) X.A (handleBy ev X.env hs) (SP X pins D) X.xe s₃) X.xe s₂) X.xe s'
/-- what is wanted of an exception in the try's body: it is caught, and the suite runs -/
def gTry (K : PySem.W.Frag) (C0 : Addr) (i : Nat) (th : Addr → Obj → TS) (D : Ends) : St → Value → Hp → Prop := fun σ cls H => PySem.W.exmOne K cls (.ref C0) = some true ∧
  ∀ (e : Addr) (oe : Obj), H e = none → oe.cls = cls → Hx oe → th e oe { nx := fun _ _ => False, rt := D.rt } (σ.set i (some (.ref e))) H
theorem throws_try {th : Addr → Obj → TS} {pins : List (Addr × Obj)} {D : Ends} (hs : X.stack = X.env :: X.outer) (hf : X.env.frame = some X.env.locals) (hex : X.ex = []) (hN : X.N.Nodup) (hi : X.N[i]? = some n) (hl : X.env.scope.names.lookup n = some .local)
    (hm : X.mg xn = some (.ref C0)) (hg : X.env.kindOf xn = some .globalImplicit) (hdb : (xn == ("__debug__" : Str)) = false)
    (hh : ∀ (e : Addr) (oe : Obj) (pn : List (Addr × Obj)), (e, oe) ∈ pn → PSs (X.sui (X.A.mark (some (.ref e))) pn) (b₀ :: suite) (th e oe)) :
    Throws (X.tryC pins (xeTry X pins D [.ExceptHandler (some (.Name xn np)) (some n) (b₀ :: suite) hpos])) (gTry X.K C0 i th D) := by
  intro pins' σ H s e cls I0 x0 h
  obtain ⟨hmat, h⟩ := h
  obtain ⟨T, fl, x, ye0, yT0⟩ := x0.ex
  have I : Inv X pins σ H s := I0.untry
  have down : ∀ {b}, Young (X.tryC pins (xeTry X pins D [.ExceptHandler (some (.Name xn np)) (some n) (b₀ :: suite) hpos])) pins' H b → Young X pins H b := fun y => ⟨y.free, y.neL, y.nofs, y.old, y.cells, fun p hp => y.pins p (List.mem_append_left _ hp)⟩
  have ye := down ye0
  have yT : ∀ t, T = some t → Young X pins H t := fun t z => down (yT0 t z)
  have hst : s.heap.FunFrames X.base (X.env :: X.outer) := hs ▸ I.stack
  have hfs : frs X.stack = (X.env :: X.outer).filterMap (·.frame) := by rw [hs]; rfl
  show wpAny _ _ (noteFrame (.ref e) X.env) _ _ s
  refine note_x (hs ▸ I.ok.frames) hst hf x fun h1 t ht x1 m1 => ?_
  have I1 : Inv X pins σ H { s with heap := h1 } := I.moved ye yT (by rw [hfs]; exact m1)
  have yt : Young X pins H t := by
    rcases ht with z | z
    · exact yT t z
    · exact young_new I hex z (I.untracked z)
  have kept : ∀ {h' h'' : Heap}, (∀ b, b ≠ t → h''.get? b = h'.get? b) → Moved (frs X.stack) e (some t) h' h'' := fun oth => Moved.of_kept fun b o _ n2 q => (oth b (fun z => n2 (by rw [z]))).trans q
  have yT1 : ∀ t', some t = some t' → Young X pins H t' := fun t' z => by cases z; exact yt
  refine flight_x x1 fun h2 x2 oth => ?_
  have I2 : Inv X pins σ H { s with heap := h2 } := Inv.moved (s := { s with heap := h1 }) (h' := h2) (T := some t) I1 ye yT1 (kept oth)
  obtain ⟨oe, vs, he, hc, hdi, hd, h2', h1', nte, _⟩ := id x2.ex
  have pinOk : ∀ {h' : Heap}, h'.get? e = some oe → Inv X pins σ H { s with heap := h' } → ∀ p ∈ X.pn ++ pins ++ [(e, oe)], h'.get? p.1 = some p.2 ∧ H p.1 = none ∧ p.1 ≠ X.env.locals ∧ p.1 ∉ X.fs ∧ ∀ v, p.2.data ≠ .cell v := fun {h'} g I' p hp => by
    rcases List.mem_append.mp hp with hp | hp
    · exact I'.pin p hp
    · rw [List.mem_singleton.mp hp]
      exact ⟨g, ye.free, ye.neL, ye.nofs, fun v z => by rw [hd] at z; cases z⟩
  have J2 : Inv (X.sui (X.A.mark (some (.ref e))) (X.pn ++ pins ++ [(e, oe)])) [] σ H { s with heap := h2 } := I2.sui rfl (pinOk he I2)
  refine wpAny_handleBy_cons (codeAny_handlers_test (ld_glob (X := X.sui (X.A.mark (some (.ref e))) (X.pn ++ pins ++ [(e, oe)])) J2 hg hm ?_ hdb)) (by intro q; cases q)
  have LT : PySem.W.Looks (model X.prog X.w) h2 (typeOf (.ref e)) cls := hc ▸ (PySem.W.Looks.ld he).andThen .now
  refine (PySem.W.exm_one I2.kIn LT hmat).here ?_
  refine codeAny_handlers_suite_as ?_
  refine flight_x x2 fun h3 x3 oth3 => ?_
  have I3 : Inv X pins σ H { s with heap := h3 } := Inv.moved (s := { s with heap := h2 }) (h' := h3) (T := some t) I2 ye yT1 (kept oth3)
  have he3 : h3.get? e = some oe := (oth3 e (Ne.symm nte)).trans he
  have J3 : Inv (X.sui (X.A.mark (some (.ref e))) (X.pn ++ pins ++ [(e, oe)])) [] σ H { s with heap := h3 } := I3.sui rfl (pinOk he3 I3)
  refine store_ok (X := X.sui (X.A.mark (some (.ref e))) (X.pn ++ pins ++ [(e, oe)])) J3 hN hi (.inl hl) (v := .ref e) rfl (fun s4 J4 => ?_) (.inr hl)
  have hq := h e oe ye.free hc ⟨hdi, vs, hd, h2'⟩
  refine wpAny_mono (hh e oe _ (List.mem_append_right _ (List.mem_singleton.mpr rfl)) [] s4 _ H _ J4 hq) (fun f s5 q => ?_) fun _ _ z => z.elim
  cases f with
  | next => obtain ⟨_, _, _, z⟩ := q; exact z.elim
  | brk => obtain ⟨_, _, _, z⟩ := q; exact z.elim
  | cont => obtain ⟨_, _, _, z⟩ := q; exact z.elim
  | ret u =>
    obtain ⟨v, σ5, H5, J5, rv, q5⟩ := q
    have I5 : Inv X pins σ5 H5 s5 := J5.unsui I.ok fun p hp => List.mem_append_left _ hp
    obtain ⟨m, hn, _⟩ := I5.loc
    refine wpAny_nameGoes hl hn (by simp [I.ok.kind]) fun h' m' hn' sb => ?_
    exact ⟨v, _, H5, I5.forgot hn' sb, rv, q5⟩
theorem ps_try {tb : Ends → TS} {th : Addr → Obj → TS} (hs : X.stack = X.env :: X.outer) (hN : X.N.Nodup) (hi : X.N[i]? = some n) (hl : X.env.scope.names.lookup n = some .local)
    (hm : X.mg xn = some (.ref C0)) (hg : Gl X xn) (hb : ∀ (pins : List (Addr × Obj)) (D : Ends) (xe : Value → Shared → Prop), Throws (X.tryC pins xe) (gTry X.K C0 i th D) → PSs (X.tryC pins xe) body (tb D))
    (hh : ∀ (e : Addr) (oe : Obj) (pn : List (Addr × Obj)), (e, oe) ∈ pn → PSs (X.sui (X.A.mark (some (.ref e))) pn) (b₀ :: suite) (th e oe))
    (hf : X.env.frame = some X.env.locals := by rfl) (hex : X.ex = [] := by rfl) (hdb : (xn == ("__debug__" : Str)) = false := by decide) :
    PS X (.Try body [.ExceptHandler (some (.Name xn np)) (some n) (b₀ :: suite) hpos] [] [] pos) (fun D σ H => tb D D σ H) := by
  intro pins s σ H D I h
  have Th := throws_try (np := np) (hpos := hpos) (pins := pins) (D := D) hs hf hex hN hi hl hm hg hdb hh
  refine wpAny_Try_except (wpAny_mono (hb pins D _ Th [] s σ H D (I.tryC _) h) (fun f s1 q => ?_) fun e s1 z => z)
  cases f with
  | next => obtain ⟨σ', H', J, q⟩ := q; exact wpAny_execs_nil ⟨σ', H', J.untry, q⟩
  | brk => obtain ⟨σ', H', J, q⟩ := q; exact ⟨σ', H', J.untry, q⟩
  | cont => obtain ⟨σ', H', J, q⟩ := q; exact ⟨σ', H', J.untry, q⟩
  | ret u => obtain ⟨v, σ', H', J, r, q⟩ := q; exact ⟨v, σ', H', J.untry, r, q⟩
end
end L2
namespace L2
open PySem PySem.Spec PyProof.Rows Lp
/-! CODE THAT RUNS WHILE AN EXCEPTION IS HANDLED -/
/-- a walk, for the contexts around X alone -/
structure TurnX (X : Cx) (tg : Expr) (J : It) (fp : List Addr) (it : Addr) (tn : Nat → Heap → Prop) : Prop where
  mem : it ∈ fp
  obj : ∀ i h, tn i h → ∀ b ∈ fp, ∃ o, h.get? b = some o ∧ ∀ v, o.data ≠ .cell v
  keep : ∀ i h h', tn i h → (∀ b ∈ fp, ∀ o, h.get? b = some o → h'.get? b = some o) → tn i h'
  item : ∀ (Y : Cx), Y.prog = X.prog → Y.w = X.w → Y.K = X.K → Y.A = X.A → Y.calm = X.calm → (∀ p ∈ X.pn, p ∈ Y.pn) → ∀ (i : Nat) (pins : List (Addr × Obj)) (s : Shared) (σ : St) (H : Hp) (E : Value → Shared → Prop), Inv Y pins σ H s → (∀ b ∈ fp, FpOk Y pins H b) → tn i s.heap → J.go i H →
    wpAny (model X.prog X.w) X.A (pyNext (.ref it)) (fun r s1 => ∃ u, r = some u ∧
      wpAny (model X.prog X.w) X.A (letOwnedTupleGo tg (.ref it) u) (fun _ s2 => ∃ x H', Inv Y pins σ H' s2 ∧ RelV x u ∧ J.yld i H x H' ∧ tn (i + 1) s2.heap ∧ ∀ b ∈ fp, H' b = none) E s1) E s
  done : ∀ (Y : Cx), Y.prog = X.prog → Y.w = X.w → Y.K = X.K → Y.A = X.A → Y.calm = X.calm → (∀ p ∈ X.pn, p ∈ Y.pn) → ∀ (i : Nat) (pins : List (Addr × Obj)) (s : Shared) (σ : St) (H : Hp) (E : Value → Shared → Prop), Inv Y pins σ H s → (∀ b ∈ fp, FpOk Y pins H b) → tn i s.heap → J.stop i H →
    wpAny (model X.prog X.w) X.A (pyNext (.ref it)) (fun r s1 => r = none ∧ Inv Y pins σ H s1) E s
  self : ∀ (A : Around) (i : Nat) (s : Shared) (Q : Value → Shared → Prop) (E : Value → Shared → Prop), tn i s.heap → Q (.ref it) s → wpAny (model X.prog X.w) A (pyIter (.ref it)) Q E s
def PIEX (X : Cx) (pins : List (Addr × Obj)) (σ : St) (tg : Expr) (R : It → Hp → Prop) (itv : Value) (s2 : Shared) : Prop :=
  ∃ (it : Addr) (fp : List Addr) (tn : Nat → Heap → Prop) (J : It) (H' : Hp), itv = .ref it ∧ Inv X pins σ H' s2 ∧ TurnX X tg J fp it tn ∧ tn 0 s2.heap ∧ (∀ b ∈ fp, FpOk X pins H' b) ∧ R J H'
def PIX (X : Cx) (tg iter : Expr) (wi : TI) : Prop :=
  ∀ (pins : List (Addr × Obj)) (s : Shared) (σ : St) (H : Hp) (R : It → Hp → Prop), Inv X pins σ H s → wi σ H R →
    wpAny (model X.prog X.w) X.A (eval iter X.env) (fun v s1 => wpAny (model X.prog X.w) X.A (pyIter v) (PIEX X pins σ tg R) X.xe s1) X.xe s
/-- the exception being handled is pinned -/
structure Hd (X : Cx) (e : Addr) (oe : Obj) : Prop where
  hh : X.A.handled = some (.ref e)
  pn : (e, oe) ∈ X.pn
theorem turn_rangeX {X : Cx} {e : Addr} {oe : Obj} {tg : Expr} (hd : Hd X e oe) (hx : Hx oe) (it : Addr) (lo : Int) (n : Nat) : TurnX X tg (Itr lo n) [it] it (fun i h => IsRangeIter h it (lo + (i : Nat) * 1) ((n : Int) - (i : Nat)) 1) where
  mem := by simp
  obj := (turn_range (P := X.prog) (w := X.w) (K := X.K) (tg := tg) it lo n).obj
  keep := (turn_range (P := X.prog) (w := X.w) (K := X.K) (tg := tg) it lo n).keep
  item := by
    intro Y hP hw hK hA hc hpn i pins s σ H E I hf st hg
    obtain ⟨f0, f1, f2, f3, f4, f5⟩ := hf it (by simp)
    have hlt : i < n := hg
    rw [← hP, ← hw, ← hA]
    refine wpAny_pyNext_range_item st (by omega) fun h' st' sb => ?_
    have st2 : IsRangeIter h' it (lo + ((i + 1 : Nat) : Int) * 1) ((n : Int) - ((i + 1 : Nat) : Int)) 1 := by
      have e1 : lo + ((i + 1 : Nat) : Int) * 1 = lo + (i : Nat) * 1 + 1 := by omega
      have e2 : (n : Int) - ((i + 1 : Nat) : Int) = (n : Int) - (i : Nat) - 1 := by omega
      rw [e1, e2]
      exact st'
    have I1 : Inv Y pins σ H { s with heap := h', toks := s.toks + 1 } := I.turned (fun b o hb e => (sb.2 b hb).trans e) f0 f1 f3 f4 f5
    refine ⟨_, rfl, go_of (s := { s with heap := h', toks := s.toks + 1 }) (n := "range_iterator") st' rfl rfl (by decide) ⟨.int (lo + i), H, I1, ⟨s.toks, ?_⟩, ⟨rfl, rfl⟩, st2, fun b hb => (hf b hb).1⟩⟩
    rw [Int.mul_one]
  done := by
    intro Y hP hw hK hA hc hpn i pins s σ H E I hf st hg
    obtain ⟨f0, f1, f2, f3, f4, f5⟩ := hf it (by simp)
    obtain ⟨vs, hdt, h2⟩ := hx.ex
    rw [← hP, ← hw, ← hA]
    exact range_end_h (hA ▸ hd.hh) (I.pin (e, oe) (List.mem_append_left _ (hpn _ hd.pn))).1 hdt h2 st (by have : n ≤ i := hg; omega) fun h' eb => ⟨rfl, I.turned (t' := s.toks) (fun b o hb e => eb b o hb e) f0 f1 f3 f4 f5⟩
  self := (turn_range (P := X.prog) (w := X.w) (K := X.K) (tg := tg) it lo n).self
section
variable {X : Cx} {scope : Scope} {cl : List (Str × Addr)} {N : List Str} {tg iter elt : Expr} {ifs : List Expr} {wi : TI} {g : TG} {tt : TT} {te : TE} {pos : Pos}
/-- the block's run -/
theorem lc_coreX {pins : List (Addr × Obj)} {σ : St} {H : Hp} {s : Shared} {Q : VK} (B : BlkS X scope cl N) (hi : PIX X tg iter wi)
    (hg : ∀ C fp pins s H, PG (X.blk scope cl N C fp pins s H) tg g) (ht : ∀ C fp pins s H, PTs (X.blk scope cl N C fp pins s H) ifs tt) (he : ∀ C fp pins s H, PE (X.blk scope cl N C fp pins s H) elt te)
    (I : Inv X pins σ H s) (h : tLC (FromOuter X scope cl N) wi g tt te σ H Q) :
    wpAny (model X.prog X.w) X.A (eval iter X.env) (fun x s₁ => wpAny (model X.prog X.w) X.A (pyIter x) (fun it s₂ => wpAny (model X.prog X.w) X.A (newList []) (fun acc s₃ =>
      wpAny (model X.prog X.w) X.A (newFunctionEnv scope X.env.globals cl [] X.env.qual none .none (some X.env)) (fun cenv s₄ =>
        codeAny (model X.prog X.w) X.A (.compStart (.ListComp elt [⟨tg, iter, ifs, 0⟩] scope pos) 0 it acc { cenv with scope := relabel scope X.env })
          (fun r s' => r = .ok .next ∧ ∃ D H' m, acc = .ref D ∧ Inv X pins σ H' s' ∧ s'.heap.Ns cenv.locals m ∧ CFree X pins H' cenv.locals ∧ Q (.ref D) H') s₄) X.xe s₃) X.xe s₂) X.xe s₁) X.xe s := by
  refine thn (hi pins s σ H _ I h) fun v s1 h1 => thn h1 fun itv s2 h2 => ?_
  obtain ⟨it, fp, tn, J, H2, e, I2, T, st2, f2, rest⟩ := h2
  subst e
  have hD : H2 s2.heap.objs.size = none := I2.hok.fresh (Nat.le_refl _)
  obtain ⟨σc, hσ, W, ⟨m0, w0⟩, turn⟩ := rest s2.heap.objs.size hD
  refine wpAny_newObj_type (wpAny_newFunctionEnv B.nocell (by intro y hy; simp at hy) (fun h₁ hns₁ hsb₁ => ?_) B.kind)
  have I3 : Inv X pins σ (upd H2 s2.heap.objs.size (.lst [])) { s2 with heap := s2.heap.push { cls := .type "list", dict := none, data := .seq ([] : List Value).toArray }, toks := s2.toks } := I2.lnew (its := []) .nil (by show 0 ≤ sizeLine; decide)
  dsimp only at hns₁ hsb₁ ⊢
  have fo : ∀ b ∈ fp, ∃ o, s2.heap.get? b = some o ∧ ∀ v, o.data ≠ .cell v := T.obj 0 _ st2
  have k3 : ∀ b o, s2.heap.get? b = some o → (s2.heap.push { cls := .type "list", dict := none, data := .seq ([] : List Value).toArray }).get? b = some o := fun b o e => Heap.get?_push_of_some _ e
  have kept : ∀ b o, (s2.heap.push { cls := .type "list", dict := none, data := .seq ([] : List Value).toArray }).get? b = some o → h₁.get? b = some o := fun b o e =>
    hsb₁.extBut b o (Nat.ne_of_lt (Heap.lt_size e)) (Heap.get?_push_of_some _ e)
  have f3 : ∀ b ∈ fp, FpOk X pins (upd H2 s2.heap.objs.size (.lst [])) b := fun b hb => by
    obtain ⟨o, e, _⟩ := fo b hb
    refine ⟨?_, (f2 b hb).2⟩
    rw [upd_ne (Nat.ne_of_lt (Heap.lt_size e))]
    exact (f2 b hb).1
  have Ic := blk_start (m := _) B I3 hσ hns₁ kept f3 (fun b hb => let ⟨o, e, _⟩ := fo b hb; ⟨o, k3 b o e⟩) (s2.toks + ([] : List (Str × Value)).length)
  have st4 : tn 0 h₁ := T.keep 0 _ _ st2 fun b _ o e => kept b o (k3 b o e)
  have stat : ∀ {H' : Hp}, (∀ b ∈ fp, H' b = none) → ∀ b ∈ fp, FpOk (X.blk scope cl N (s2.heap.push { cls := .type "list", dict := none, data := .seq ([] : List Value).toArray }).objs.size fp pins { s2 with heap := s2.heap.push { cls := .type "list", dict := none, data := .seq ([] : List Value).toArray }, toks := s2.toks } (upd H2 s2.heap.objs.size (.lst []))) [] H' b := fun hn b hb => by
    obtain ⟨o, e, _⟩ := fo b hb
    refine ⟨hn b hb, Nat.ne_of_lt (Heap.lt_size (k3 b o e)), I3.nstk (f3 b hb).2.1 (f3 b hb).2.2.1, .inl hb, fun x c e => (f3 b hb).2.2.2.2.1 x c (B.sub x c e), fun p hp => ?_⟩
    rw [List.append_nil] at hp
    exact (f3 b hb).2.2.2.2.2 p hp
  have fin : ∀ {σ' : St} {H' : Hp} {s' : Shared}, Inv (X.blk scope cl N (s2.heap.push { cls := .type "list", dict := none, data := .seq ([] : List Value).toArray }).objs.size fp pins { s2 with heap := s2.heap.push { cls := .type "list", dict := none, data := .seq ([] : List Value).toArray }, toks := s2.toks } (upd H2 s2.heap.objs.size (.lst []))) [] σ' H' s' →
      Inv X pins σ H' s' ∧ (∃ m, s'.heap.Ns (s2.heap.push { cls := .type "list", dict := none, data := .seq ([] : List Value).toArray }).objs.size m) ∧ CFree X pins H' (s2.heap.push { cls := .type "list", dict := none, data := .seq ([] : List Value).toArray }).objs.size := fun {σ' H' s'} J' => by
    refine ⟨I3.call' J'.os J'.base J'.hok J'.bare fun b hb => ⟨(f3 b hb).2.2.2.1, (f3 b hb).2.1, (f3 b hb).2.2.2.2.1, (f3 b hb).2.2.2.2.2⟩, ?_, J'.free, Nat.ne_of_gt I3.lt, I3.sz, fun x c e => ?_, fun p hp => ?_⟩
    · obtain ⟨m, hm, _⟩ := J'.loc
      exact ⟨m, hm⟩
    · obtain ⟨v, o, ho, _⟩ := I3.cell x c e
      exact Nat.ne_of_lt (Heap.lt_size ho)
    · exact Nat.ne_of_lt (Heap.lt_size (I3.pin p hp).1)
  have loop : codeAny (model X.prog X.w) X.A (.compLoop (.ListComp elt [⟨tg, iter, ifs, 0⟩] scope pos) 0 (.ref it) (.ref s2.heap.objs.size) (compEnvC scope cl (s2.heap.push { cls := .type "list", dict := none, data := .seq ([] : List Value).toArray }).objs.size X.env))
      (fun r s' => r = .ok .next ∧ ∃ D H' m, Value.ref s2.heap.objs.size = .ref D ∧ Inv X pins σ H' s' ∧ s'.heap.Ns (s2.heap.push { cls := .type "list", dict := none, data := .seq ([] : List Value).toArray }).objs.size m ∧ CFree X pins H' (s2.heap.push { cls := .type "list", dict := none, data := .seq ([] : List Value).toArray }).objs.size ∧ Q (.ref D) H')
      { s2 with heap := h₁, toks := s2.toks + ([] : List (Str × Value)).length } := by
    refine comp_loop (fun n s' => ∃ i σ' H', Inv (X.blk scope cl N (s2.heap.push { cls := .type "list", dict := none, data := .seq ([] : List Value).toArray }).objs.size fp pins { s2 with heap := s2.heap.push { cls := .type "list", dict := none, data := .seq ([] : List Value).toArray }, toks := s2.toks } (upd H2 s2.heap.objs.size (.lst []))) [] σ' H' s' ∧
      tn i s'.heap ∧ (∀ b ∈ fp, H' b = none) ∧ W i n σ' H') ?_ m0 ⟨0, σc, _, Ic, st4, fun b hb => (f3 b hb).1, w0⟩
    rintro n s3 ⟨i, σ3, H3, I3', st3, fr3, w3⟩
    rcases turn i n σ3 H3 w3 with ⟨stop, qn⟩ | ⟨go, Nx, hN, step⟩
    · refine thn (T.done (X.blk scope cl N (s2.heap.push { cls := .type "list", dict := none, data := .seq ([] : List Value).toArray }).objs.size fp pins { s2 with heap := s2.heap.push { cls := .type "list", dict := none, data := .seq ([] : List Value).toArray }, toks := s2.toks } (upd H2 s2.heap.objs.size (.lst []))) rfl rfl rfl rfl rfl (fun p hp => List.mem_append_left _ hp) i [] s3 σ3 H3 _ I3' (stat fr3) st3 stop) fun r s4 ⟨hr, I4⟩ => ?_
      subst hr
      obtain ⟨a1, ⟨m, a2⟩, a3⟩ := fin I4
      exact ⟨rfl, _, H3, m, rfl, a1, a2, a3, qn⟩
    · refine thn (T.item (X.blk scope cl N (s2.heap.push { cls := .type "list", dict := none, data := .seq ([] : List Value).toArray }).objs.size fp pins { s2 with heap := s2.heap.push { cls := .type "list", dict := none, data := .seq ([] : List Value).toArray }, toks := s2.toks } (upd H2 s2.heap.objs.size (.lst []))) rfl rfl rfl rfl rfl (fun p hp => List.mem_append_left _ hp) i [] s3 σ3 H3 _ I3' (stat fr3) st3 go) fun r s4 ⟨u, hr, h4⟩ => ?_
      subst hr
      refine thn h4 fun _ s5 ⟨x, H5, I5, r5, y5, st5, fr5⟩ => ?_
      have I5' := I5.pinned (stat fr5) (T.obj _ _ st5)
      refine thn (hg _ _ _ _ _ _ s5 σ3 H5 x u _ I5' r5 (step x H5 y5)) fun _ s6 ⟨σ6, H6, I6, q6⟩ => ?_
      have again : ∀ {σ7 : St} {H7 : Hp} {s7 : Shared}, Inv (X.blk scope cl N (s2.heap.push { cls := .type "list", dict := none, data := .seq ([] : List Value).toArray }).objs.size fp pins { s2 with heap := s2.heap.push { cls := .type "list", dict := none, data := .seq ([] : List Value).toArray }, toks := s2.toks } (upd H2 s2.heap.objs.size (.lst []))) ([] ++ pinsAt fp s5.heap) σ7 H7 s7 → Nx σ7 H7 →
          ∃ m, m < n ∧ ∃ i σ' H', Inv (X.blk scope cl N (s2.heap.push { cls := .type "list", dict := none, data := .seq ([] : List Value).toArray }).objs.size fp pins { s2 with heap := s2.heap.push { cls := .type "list", dict := none, data := .seq ([] : List Value).toArray }, toks := s2.toks } (upd H2 s2.heap.objs.size (.lst []))) [] σ' H' s7 ∧ tn i s7.heap ∧ (∀ b ∈ fp, H' b = none) ∧ W i m σ' H' := fun {σ7 H7 s7} I7 n7 => by
        obtain ⟨m', hm, w7⟩ := hN σ7 H7 n7
        refine ⟨m', hm, i + 1, σ7, H7, I7.unpinned, T.keep _ _ _ st5 fun b hb o e => (I7.pin (b, o) (List.mem_append_right _ (List.mem_append_right _ (mem_pinsAt hb e)))).1, fun b hb => ?_, w7⟩
        obtain ⟨o, e, d⟩ := T.obj _ _ st5 b hb
        exact (I7.pin (b, o) (List.mem_append_right _ (List.mem_append_right _ (mem_pinsAt hb e)))).2.1
      refine thn (ht _ _ _ _ _ _ s6 σ6 H6 _ I6 q6) fun ok s7 ⟨H7, I7, q7⟩ => ?_
      cases ok with
      | false => exact again I7 (by simpa using q7)
      | true =>
        rw [if_pos rfl] at q7 ⊢
        refine thn (he _ _ _ _ _ _ s7 σ6 H7 _ I7 q7) fun y s8 ⟨v, H8, I8, rv, q8⟩ => ?_
        obtain ⟨xs, hD8, hz, n8⟩ := q8
        exact thn (mt_append _ s8 σ6 H8 (.ref s2.heap.objs.size) [v] (.ref s2.heap.objs.size) [y] (fun _ H' => Nx σ6 H') I8 rfl (.cons rv .nil) ⟨_, xs, v, rfl, rfl, hD8, hz, n8⟩) fun _ s9 ⟨_, H9, I9, _, n9⟩ => again I9 n9
  exact codeAny_compStart_list loop (T.self _ 0 _ _ _ st4 loop)
/-- a comprehension as a value -/
theorem pe_lcompX (B : BlkS X scope cl N) (hi : PIX X tg iter wi)
    (hg : ∀ C fp pins s H, PG (X.blk scope cl N C fp pins s H) tg g) (ht : ∀ C fp pins s H, PTs (X.blk scope cl N C fp pins s H) ifs tt) (he : ∀ C fp pins s H, PE (X.blk scope cl N C fp pins s H) elt te)
    (hs : ∀ x, foldedSetIterable iter X.env x = pure x := by intro _; rfl) : PE X (.ListComp elt [⟨tg, iter, ifs, 0⟩] scope pos) (tLC (FromOuter X scope cl N) wi g tt te) := by
  intro pins s σ H Q I h
  rw [eval_ListComp]
  refine wpAny_comprehension_free (use := none) rfl hs B.clos B.kind B.names (thn (lc_coreX (pos := pos) (Q := Q) B hi hg ht he I h) fun x s1 h1 => thn h1 fun it s2 h2 => thn h2 fun acc s3 h3 => thn h3 fun cenv s4 h4 => ?_)
  refine codeAny_mono h4 fun r s5 h5 => ?_
  obtain ⟨rfl, D, H', m, rfl, I5, hn, cf, q⟩ := h5
  exact ⟨m, hn, fun h' hs' => ⟨.ref D, H', I5.turned (t' := s5.toks) (fun b o hb e => hs'.extBut b o hb e) cf.free cf.neL (.inr cf.young) cf.cells cf.pins, rfl, q⟩⟩
theorem range_itX {e : Addr} {oe : Obj} {pins : List (Addr × Obj)} {σ : St} {H : Hp} {s : Shared} {R : It → Hp → Prop} {E : Value → Shared → Prop} {hi : Int} {t u v : Tok} {tk : Nat} (hd : Hd X e oe) (hx : Hx oe) (I : Inv X pins σ H s) (h3 : -(2 ^ 62) ≤ hi) (h4 : hi < 2 ^ 62)
    (q : R (Itr 0 (hi - 0).toNat) H) : wpAny (model X.prog X.w) X.A (pyIter (.ref s.heap.objs.size)) (PIEX X pins σ tg R) E { s with heap := s.heap.push { cls := .type "range", data := .fields #[.int 0 t, .int hi u, .int 1 v] }, toks := tk } := by
  refine wpAny_pyIter_range (IsRange.new ..) (small_one (by decide) (by decide) h3 h4) ?_
  have I1 : Inv X pins σ H { s with heap := s.heap.push { cls := .type "range", data := .fields #[.int 0 t, .int hi u, .int 1 v] }, toks := tk } := I.kept fun b o z => Heap.get?_push_of_some _ z
  refine ⟨_, [_], _, _, H, rfl, I1.kept (t' := tk) fun b o z => Heap.get?_push_of_some _ z, turn_rangeX hd hx _ 0 (hi - 0).toNat, ?_, fun b hb => ?_, q⟩
  · have e1 : (0 : Int) + ((0 : Nat) : Int) * 1 = 0 := by simp
    have e2 : (((hi - 0).toNat : Nat) : Int) - ((0 : Nat) : Int) = Builtin.Range.rangeSize 0 hi 1 := by rw [rangeSize_one]; split <;> omega
    show IsRangeIter _ _ ((0 : Int) + ((0 : Nat) : Int) * 1) ((((hi - 0).toNat : Nat) : Int) - ((0 : Nat) : Int)) 1
    rw [e1, e2]
    exact Heap.get?_push_size _ rfl
  · rw [List.mem_singleton.mp hb]
    exact I1.fpOk (Nat.le_refl _) (I1.hok.fresh (Nat.le_refl _))
theorem pi_range1X {e : Addr} {oe : Obj} {a : Expr} {ta : TA} {p pos : Pos} (hd : Hd X e oe) (hg : Gl X "range") (hm : X.mg "range" = none) (ha : PA X [a] ta) (hs : starEach [a] X.env = [(false, eval a X.env)] := by rfl) :
    PIX X tg (.Call (.Name "range" p) [a] [] pos) (fun σ H R => Hx oe ∧ iRng1 ta σ H R) := by
  intro pins s σ H R I h
  obtain ⟨hx, h⟩ := h
  refine Call_ (ld_blt I hg hm boot_range (PyProof.Rows.callWith_type1 (thn (ha pos pins s σ H _ I h) fun us s1 ⟨vs, H1, I1, r1, q1⟩ => ?_) hs rfl))
  obtain ⟨j, z, q1, q2, q⟩ := q1
  subst z
  cases r1 with
  | cons r rr =>
    cases rr
    obtain ⟨t, rfl⟩ := r
    exact call_range_1 (range_itX hd hx I1 q1 q2 (by simpa using q))
end
/-! ### defs that run so -/
structure RoomH (k : Nat) (A : Around) : Prop where
  dp : A.depth + 3 * k + 5 < recursionLimit
  un : A.units + 16 * k + 200 < cLine
theorem Room.toH {k : Nat} {A : Around} {e : Value} (r : Room k A) : RoomH k (A.mark (some e)) := ⟨r.dp, r.un⟩
theorem RoomH.deeper {k : Nat} {A : Around} (r : RoomH (k + 1) A) (env : Env) : RoomH k (A.deeper env) :=
  ⟨by have := r.dp; show A.depth + 1 + 3 * k + 5 < _; omega, by have := r.un; show A.units + 3 + 16 * k + 200 < _; omega⟩
theorem RoomH.depth {k : Nat} {A : Around} (r : RoomH k A) : A.depth < recursionLimit := by have := r.dp; omega
theorem RoomH.units {k : Nat} {A : Around} (r : RoomH k A) : A.units + 64 < cLine := by have := r.un; omega
abbrev SpH := Addr → Obj → List V → Hp → VK → Prop
structure CalH (P : Program) (w : World) (K : PySem.W.Frag) (mg : Str → Option Value) (base : Heap) (k : Nat) (x : Str) (ps : List Str) (sp : SpH) : Prop where
  ex : ∃ (f : Addr) (fd : FuncData), (∀ e oe vs H Q, sp e oe vs H Q → vs.length = ps.length) ∧
    (∀ (A : Around) (outer : List Env) (s : Shared) (H : Hp) (args : Args) (us : List Value) (vs : List V) (Q : VK) (e : Addr) (oe : Obj), RoomH k A → A.handled = some (.ref e) → s.heap.get? e = some oe → H e = none → e ∉ frs outer → Hx oe →
      Env0 P w K mg base A outer s H → BindsTo s fd args (ps.zip us) → Vals vs us → sp e oe vs H Q → codeAny (model P w) A (.call (.ref f) args) (CR CX0 outer P w H s Q E0) s) ∧
    Binds K fd ps [] ∧ mg x = some (.ref f) ∧ PySem.W.keepIn K (.ref f) = true
section
variable {P : Program} {w : World} {K : PySem.W.Frag} {mg : Str → Option Value} {base : Heap} {x : Str} {ps : List Str} {st : Stmt} {sp : SpH} {N : List Str} {k : Nat}
theorem Df.okH (D : Df K mg x ps st) (S : FnScope N ps (defScope st)) (len : ∀ e oe vs H Q, sp e oe vs H Q → vs.length = ps.length)
    (hbody : ∀ (f : Addr) (cdv : Value) (A : Around) (outer : List Env) (s : Shared) (H : Hp) (vs : List V) (Q : VK) (e : Addr) (oe : Obj), RoomH k (A.deeper (envOfC x (defScope st) s.heap.objs.size f cdv)) → A.handled = some (.ref e) → Hx oe → sp e oe vs H Q →
      ∃ t, PSs ((cxOf CX0 P w K mg base N x (defScope st) f cdv A outer s H E0).sui (A.deeper (envOfC x (defScope st) s.heap.objs.size f cdv)) [(e, oe)]) (defBody st) t ∧ t { nx := fun _ H' => Q .non H', rt := Q } (start N vs) H) : CalH P w K mg base (k + 1) x ps sp := by
  obtain ⟨f, fd, F, b, m⟩ := D.ex
  obtain ⟨oc, od, kV, doc, pm, an, cdv, ct, osl, e1, lk, hcd⟩ := id F.ex
  subst e1
  refine ⟨f, _, len, fun A outer s H args us vs Q e oe hr hh he hH hfe hx e0 hb r hsp => ?_, b, m, F.kp⟩
  have hl := len _ _ _ _ _ hsp
  have KX : K.In s.heap := e0.mod.kin.keeps fun b o z => (e0.bs b o z).1
  have lim : s.heap.NoLimit := e0.mod.nolimit.keeps fun b o z => (e0.bs b o z).1
  have hkind : ∀ y ∈ ps.zip us, (defScope st).names.lookup y.1 = some .local ∨ ((defScope st).names.lookup y.1 = some .cell ∧ ((cellsFrom (s.heap.objs.size + 1) (defScope st).names []).lookup y.1).isSome = true) := fun ⟨n, v⟩ hy => by
    rcases S.par n (List.of_mem_zip hy).1 with q | q
    · exact .inl q
    · exact .inr ⟨q, PySem.W.cellsFrom_some _ _ _ (.inl q)⟩
  refine codeAny_call_function hr.depth (KX _ _ lk) rfl S.co S.gen rfl (PySem.W.codeRec_of KX hcd) (hb _ _ _ _ ?_)
  refine wpAny_newFunctionEnv_cells S.kind hkind fun env he' s1 x1 => ?_
  subst he'
  refine ⟨lim.keeps x1.toInCall.keep, codeAny_func ?_⟩
  obtain ⟨t, ht, hq⟩ := hbody f cdv A outer s H vs Q e oe (hr.deeper _) hh hx hsp
  have e0' : Env0 P w K mg base { A with handled := none } outer s H := ⟨e0.frames, e0.mod, e0.bs, e0.bsz, e0.funs, e0.frf, e0.hok, e0.bare⟩
  have I0 := inv_start (CX := CX0) (qual := x) (f := f) (cd := cdv) (E := E0) S rfl e0' hl r x1
  obtain ⟨ws, hdt, _⟩ := hx.ex
  have I := I0.sui (A := A.deeper (envOfC x (defScope st) s.heap.objs.size f cdv)) (pn := [(e, oe)]) rfl fun p hp => by
    rw [List.mem_singleton.mp hp]
    exact ⟨x1.toInCall.keep e oe he, hH, Nat.ne_of_lt (Heap.lt_size he), hfe, fun v z => by rw [hdt] at z; cases z⟩
  refine wpAny_mono (ht [] s1 (start N vs) H _ I hq) (fun fl s' hs => ?_) fun e s' hs => (show False from hs).elim
  have fin : ∀ {σ' : St} {H' : Hp} {v : V} {u : Value}, Inv ((cxOf CX0 P w K mg base N x (defScope st) f cdv A outer s H E0).sui (A.deeper (envOfC x (defScope st) s.heap.objs.size f cdv)) [(e, oe)]) [] σ' H' s' → RelV v u → Q v H' → CE outer P w H s Q u s' :=
    fun {σ' H' v u} J rv q => ⟨v, H', J.os, J.bare, J.base, J.hok, rv, q⟩
  cases fl with
  | ret u =>
    obtain ⟨v, σ', H', J, rv, q⟩ := hs
    exact fin J rv q
  | next =>
    obtain ⟨σ', H', J, q⟩ := hs
    exact fin (v := V.non) (u := Value.none) J rfl q
  | brk =>
    obtain ⟨_, _, _, q⟩ := hs
    exact False.elim q
  | cont =>
    obtain ⟨_, _, _, q⟩ := hs
    exact False.elim q
end
section
variable {X : Cx} {k : Nat} {x : Str} {ps : List Str} {sp : SpH} {a : Expr} {es : List Expr} {t : TA} {p pos : Pos} {e : Addr} {oe : Obj}
theorem pe_calH (C : CalH X.prog X.w X.K X.mg X.base k x ps sp) (hd : Hd X e oe) (hr : RoomH k X.A) (hg : Gl X x) (ha : PA X (a :: es) t) (hdb : (x == ("__debug__" : Str)) = false := by decide)
    (he : starEach (a :: es) X.env = (false, eval a X.env) :: starEach es X.env := by rfl) (hpl : (backTo pos (starEach es X.env)).any (·.1) = false := by rfl) : PE X (.Call (.Name x p) (a :: es) [] pos) (fun σ H Q => t σ H fun vs H1 => Hx oe ∧ sp e oe vs H1 Q) := by
  obtain ⟨f, fd, len, run, b, m, kk⟩ := C.ex
  intro pins s σ H Q I h
  refine wpAny_Call_Name_kw (ld_glob I hg m ?_ hdb)
  refine PySem.W.callWith_K (h₀ := X.base) I.ok.mod.kin kk (thn (ha pos pins s σ H _ I h) fun us s1 ⟨vs, H1, I1, r, hx, q⟩ => ⟨I1.kIn, ?_⟩) he hpl
  have hl : us.length = ps.length := by rw [← r.length]; exact len _ _ _ _ _ q
  have hb' := b s1 us I1.kIn (by rw [List.append_nil]; exact hl)
  rw [List.append_nil] at hb'
  obtain ⟨p1, p2, p3, p4, p5⟩ := I1.pin (e, oe) (List.mem_append_left _ hd.pn)
  refine wpAny_call (codeAny_mono (run X.A X.stack s1 H1 ⟨us, []⟩ us vs Q e oe hr hd.hh p1 p2 (I1.nstk p3 p4) hx I1.env0 hb' r q) fun r s' hq => ?_)
  cases r with
  | error e => exact (show False from hq).elim
  | ok fl =>
    cases fl with
    | ret u => exact I1.after hq
    | next => exact False.elim hq
    | brk => exact False.elim hq
    | cont => exact False.elim hq
/-! ### isinstance(e, C) -/
theorem exc_lookup {K : PySem.W.Frag} {D : Addr} (k : ExcK K D) : ∃ oc od cd sl, K.lookup D = some ⟨oc, od, .cls cd, sl⟩ := by
  have h := k.gt
  unfold PySem.W.findIn at h
  dsimp only at h
  split at h
  · rename_i oc od cd sl z
    exact ⟨oc, od, cd, sl, z⟩
  · cases h
theorem kitx_exc {K : PySem.W.Frag} {x D : Addr} {ox : Obj} (k : ExcK K D) (hc : ox.cls = .ref D) (hx : Hx ox) : PySem.W.KitX K (.ref x) (.ref D) (fun h => h.get? x = some ox) where
  ty := fun M h _ q => hc ▸ (PySem.W.Looks.ld q).andThen .now
  it := fun _ _ X _ => by
    obtain ⟨oc, od, cd, sl, ho⟩ := exc_lookup k
    intro A' Q' E' s' kk q
    unfold isType loadHead
    exact wpAny_bind (wpAny_loadPart (kk _ _ (X _ _ ho)) (wpAny_pure q))
  ne := fun h tp dd its n sl X htp => by
    obtain ⟨oc, od, cd, sl', ho⟩ := exc_lookup k
    refine Bool.eq_false_iff.mpr fun q => ?_
    have z : D = tp := Value.ref.inj (beq_iff_eq.mp q)
    subst z
    have z := (X _ _ ho).symm.trans htp
    cases z
  ca := fun {_ _ _ _ _ s} X q h => by
    obtain ⟨ws, hd, _⟩ := hx.ex
    refine exc_class X ⟨q, hc, ?_, ?_⟩ k h
    · obtain ⟨c, d, dt, sl⟩ := ox
      dsimp only at hd
      subst hd
      rfl
    · rw [hx.dict]
      trivial
def clsV : V → Value
  | .ref C => .ref C
  | .ty T => .type T
  | _ => .none
theorem call_isinstE (hp : (e, oe) ∈ X.pn) : CallR X (.builtin "isinstance") (fun xs H Q => ∃ (D : Addr) (v : V) (b : Bool), xs = [.ref e, v] ∧ Hx oe ∧ oe.cls = .ref D ∧ ExcK X.K D ∧ PySem.W.kitOne X.K (.ref D) (clsV v) = some b ∧ Q (.bl b) H) := by
  intro pins s σ H xs us Q I r h
  obtain ⟨D, v, b, rfl, hx, hc, k, hk, q⟩ := h
  obtain ⟨u, w', rfl, r1, r2⟩ := vals2 r
  cases (show u = Value.ref e from r1)
  have hv : w' = clsV v := by
    cases v with
    | ref C => exact r2
    | ty T => exact r2
    | _ => exact absurd hk (by simp [clsV, PySem.W.kitOne, PySem.W.kitCls])
  subst hv
  exact PySem.W.kia_one (kitx_exc k hc hx) I.kIn (I.pin (e, oe) (List.mem_append_left _ hp)).1 hk (fun z => nomatch z) fun tk => ⟨.bl b, H, I.tok _, rfl, q⟩
end
end L2
namespace L2
open PySem PySem.Spec PyProof.Rows Lp
/-! our seven refusals -/
/-- the classes of the refusals by their number, and PayError's -/
structure Cls7 (mg : Str → Option Value) (C : Nat → Addr) (cp : Addr) : Prop where
  n0 : mg "NoRow" = some (.ref (C 0))
  n1 : mg "NoOpened" = some (.ref (C 1))
  n2 : mg "TooMany" = some (.ref (C 2))
  n3 : mg "NoAmount" = some (.ref (C 3))
  n4 : mg "NoPayment" = some (.ref (C 4))
  n5 : mg "NoCount" = some (.ref (C 5))
  n6 : mg "NoNote" = some (.ref (C 6))
  np : mg "PayError" = some (.ref cp)
/-- what is known of one that is raised -/
structure Rz (K : PySem.W.Frag) (C : Nat → Addr) (cp : Addr) (i : Nat) : Prop where
  own : PySem.W.excIn K (C i) [.type "ValueError", .type "Exception", .type "BaseException", .type "object"] "ValueError.__new__" = true
  ek : ExcK K (C i)
  kit : ∀ j, j < 7 → PySem.W.kitOne K (.ref (C i)) (.ref (C j)) = some (decide (i = j))
  val : PySem.W.kitOne K (.ref (C i)) (.type "ValueError") = some true
  exm : PySem.W.exmOne K (.ref (C i)) (.ref cp) = some true
def clsF (c0 c1 c2 c3 c4 c5 c6 : Addr) : Nat → Addr
  | 0 => c0
  | 1 => c1
  | 2 => c2
  | 3 => c3
  | 4 => c4
  | 5 => c5
  | _ => c6
theorem kit7 {Pr : Nat → Prop} (h0 : Pr 0) (h1 : Pr 1) (h2 : Pr 2) (h3 : Pr 3) (h4 : Pr 4) (h5 : Pr 5) (h6 : Pr 6) : ∀ j, j < 7 → Pr j
  | 0, _ => h0
  | 1, _ => h1
  | 2, _ => h2
  | 3, _ => h3
  | 4, _ => h4
  | 5, _ => h5
  | 6, _ => h6
  | n + 7, h => absurd h (by omega)
theorem bb_ValueError : bootBuiltins "ValueError" = some (.type "ValueError") := by decide +kernel
/-! lists of bools -/
theorem dvs_bools {K : PySem.W.Frag} {H : Hp} : ∀ bs : List Bool, DVs K H (bs.map V.bl) (bs.map PyData.bool)
  | [] => .nil
  | b :: r => .cons (.bl b) (dvs_bools r)
theorem canLay_bools : ∀ ns : List Bool, PyData.canLayAll0 (ns.map PyData.bool) = true
  | [] => by simp [PyData.canLayAll0]
  | n :: r => by simp [PyData.canLayAll0, PyData.canLay0, canLay_bools r]
theorem depth_bools : ∀ ns : List Bool, PyData.depthAll (ns.map PyData.bool) = 0
  | [] => by simp [PyData.depthAll]
  | n :: r => by simp [PyData.depthAll, PyData.depth, depth_bools r]
theorem shaped_bools (ns : List Bool) : SeqAt.shaped (.list (ns.map PyData.bool)) = true := by
  simp [SeqAt.shaped, PyData.canLay0, PyData.depth, canLay_bools, depth_bools]
theorem eqvAll_bools : ∀ as bs : List Bool, as.length = bs.length → PyData.eqvAll (as.map PyData.bool) (bs.map PyData.bool) = decide (as = bs)
  | [], [], _ => by simp [PyData.eqvAll]
  | [], b :: r, h => by simp at h
  | a :: r, [], h => by simp at h
  | a :: r, b :: t, h => by
    rw [List.map_cons, List.map_cons, PyData.eqvAll, eqvAll_bools r t (by simpa using h)]
    cases a <;> cases b <;> simp [PyData.eqv]
theorem eqv_bools (as bs : List Bool) (h : as.length = bs.length) : PyData.eqv (.list (as.map PyData.bool)) (.list (bs.map PyData.bool)) = decide (as = bs) := by
  rw [PyData.eqv]
  exact eqvAll_bools as bs h
def marksB (i : Nat) : List Bool := (List.range 7).map fun j => decide (i = j)
def wantB (w : Int) : List Bool := (List.range 7).map fun j => decide (((j : Nat) : Int) = w)
theorem marks_want {i : Nat} (h : i < 7) (w : Int) : decide (marksB i = wantB w) = decide (w = i) := by
  refine decide_eq_decide.mpr ⟨fun e => ?_, fun e => ?_⟩
  · have := congrArg (fun l => l[i]?) e
    simp only [marksB, wantB, List.getElem?_map, List.getElem?_range h, Option.map_some] at this
    simp at this
    omega
  · subst e
    unfold marksB wantB
    apply List.map_congr_left
    intro j _
    exact decide_eq_decide.mpr (by omega)
theorem log_small {i : Int} (h1 : -(10 ^ 40) ≤ i) (h2 : i ≤ 10 ^ 40) : i.natAbs.log2 < 1920 := by
  by_cases h0 : i.natAbs = 0
  · rw [h0]; decide
  · refine (Nat.log2_lt h0).mpr ?_
    have : i.natAbs ≤ 10 ^ 40 := by omega
    exact Nat.lt_of_le_of_lt this (by decide)
end L2
namespace L2
open PySem PySem.Spec PyProof.Rows Lp
/-! two promises of one def -/
theorem Cal.or {P : Program} {w : World} {K : PySem.W.Frag} {mg : Str → Option Value} {base : Heap} {CX : CXT} {k : Nat} {x : Str} {ps : List Str} {sp sq : Sp} (C : Cal P w K mg base CX k x ps sp) (D : Cal P w K mg base CX k x ps sq) :
    Cal P w K mg base CX k x ps (fun vs H Q E => sp vs H Q E ∨ sq vs H Q E) := by
  obtain ⟨f, fd, F, b, m, kk, oc, od, osl, lk⟩ := C.ex
  obtain ⟨f', fd', F', b', m', kk', oc', od', osl', lk'⟩ := D.ex
  have ef := m.symm.trans m'
  cases ef
  have eo := lk.symm.trans lk'
  cases eo
  refine ⟨f, fd, ⟨fun vs H Q E h => ?_, fun A outer s H args us vs Q E hr he hb hv h => ?_⟩, b, m, kk, oc, od, osl, lk⟩
  · rcases h with h | h
    · exact F.len vs H Q E h
    · exact F'.len vs H Q E h
  · rcases h with h | h
    · exact F.run A outer s H args us vs Q E hr he hb hv h
    · exact F'.run A outer s H args us vs Q E hr he hb hv h
/-! a walk of a list, while an exception is handled, that is left ahead of its end -/
def Itl0 (K : PySem.W.Frag) (a : Addr) : It := ⟨(Itl K a).go, (Itl K a).yld, fun _ _ => False⟩
section
variable {X : Cx} {tg : Expr}
end
/-! == of lists of ints -/
end L2
namespace L2
open PySem PySem.Spec PyProof.Rows Lp
/-! TEXTS: walks over a text, slices, one sign's repr -/
/-- all signs are plain -/
def Sm (z : Str) : Prop := ∀ c ∈ z.cps.toList, c < 1000
/-- the signs of x, one a turn -/
def Its (x : Str) : It := ⟨fun i _ => i < x.cps.size, fun i H v H' => H' = H ∧ ∃ c, x.cps[i]? = some c ∧ v = .str ⟨#[c]⟩, fun i _ => x.cps.size ≤ i⟩
def iStr (te : TE) : TI := fun σ H R => te σ H fun v H1 => ∃ x, v = .str x ∧ R (Its x) H1
section
variable {X : Cx} {tg : Expr}
end
/-- enumerate over a text -/
def Itse (x : Str) : It := ⟨fun i _ => i < x.cps.size, fun i H v H' => ∃ t c, H t = none ∧ v = .ref t ∧ x.cps[i]? = some c ∧ H' = upd H t (.tup [.int i, .str ⟨#[c]⟩]), fun i _ => x.cps.size ≤ i⟩
def iEnumS (ta : TA) : TI := fun σ H R => ta σ H fun vs H1 => ∃ x, vs = [.str x] ∧ R (Itse x) H1
section
variable {X : Cx} {elts : List Expr} {x1 : Nat} {tpos : Pos}
end
/-! ### slices of texts -/
/-! ### {x!r} of a text -/
end L2
namespace L2
open PySem PySem.Spec PyProof.Rows Lp
/-! ### notes -/
def okS (c : Nat) : Prop := c = 111 ∨ c = 45
instance (c : Nat) : Decidable (okS c) := by unfold okS; exact inferInstance
structure GoodS (x : Str) : Prop where
  lo : 1 ≤ x.length
  hi : x.length ≤ 60
  ok : ∀ (i c : Nat), x.cps[i]? = some c → okS c
def posO (x : Str) (n : Nat) : List Int := ((List.range n).filter fun i => decide (x.cps[i]? = some 111)).map fun i => ((i : Nat) : Int)
theorem str_o : Str.ofString "o" = ⟨#[111]⟩ := by decide +kernel
theorem str_d : Str.ofString "-" = ⟨#[45]⟩ := by decide +kernel
end L2
namespace L2
open PySem PySem.Spec PyProof.Rows Lp
/-! ''.join of single signs -/
theorem glued_ones : ∀ (cs : List Nat), Builtin.Str.glued (Str.ofString "") (cs.map fun c => ⟨#[c]⟩) = ⟨cs.toArray⟩ := by
  have h0 : (Str.ofString "").cps = #[] := by decide +kernel
  have go : ∀ (r : List Nat) (acc : Array Nat), (r.map fun c => (⟨#[c]⟩ : Str)).foldl (fun acc p => acc ++ (Str.ofString "").cps ++ p.cps) acc = acc ++ r.toArray := by
    intro r
    induction r with
    | nil => intro acc; simp
    | cons c r ih =>
      intro acc
      rw [List.map_cons, List.foldl_cons, ih, h0]
      simp
  intro cs
  unfold Builtin.Str.glued
  cases cs with
  | nil => rfl
  | cons c r =>
    show (⟨(r.map fun c => (⟨#[c]⟩ : Str)).foldl _ #[c]⟩ : Str) = _
    rw [go]
    simp
theorem ones_len : ∀ (cs : List Nat), ((cs.map fun c => (⟨#[c]⟩ : Str)).toArray.foldl (· + ·.length + (Str.ofString "").length) 0) = cs.length := by
  have h0 : (Str.ofString "").length = 0 := by decide +kernel
  have go : ∀ (r : List Nat) (n : Nat), (r.map fun c => (⟨#[c]⟩ : Str)).foldl (· + ·.length + (Str.ofString "").length) n = n + r.length := by
    intro r
    induction r with
    | nil => intro n; rfl
    | cons c r ih =>
      intro n
      rw [List.map_cons, List.foldl_cons, ih, h0, List.length_cons]
      show n + 1 + 0 + r.length = _
      omega
  intro cs
  rw [List.foldl_toArray, go]
  omega
theorem ones_vals : ∀ {cs : List Nat} {its : List Value}, Vals (cs.map fun c => V.str ⟨#[c]⟩) its → ∃ l : List (Str × Tok), strValues l = its ∧ l.map (·.1) = cs.map fun c => ⟨#[c]⟩
  | [], its, r => by
    cases r
    exact ⟨[], rfl, rfl⟩
  | c :: r, its, h => by
    cases h with
    | cons h1 h2 =>
      obtain ⟨t, rfl⟩ := h1
      obtain ⟨l, e1, e2⟩ := ones_vals h2
      exact ⟨(⟨#[c]⟩, t) :: l, by rw [← e1]; rfl, by rw [List.map_cons, List.map_cons, e2]⟩
theorem mt_join1 {X : Cx} : MtR X "str.join" (fun x vs H Q => ∃ (l : Addr) (cs : List Nat), x = .str (Str.ofString "") ∧ vs = [.ref l] ∧ SqL X.K H l (cs.map fun c => V.str ⟨#[c]⟩) ∧ cs.length ≤ 1000 ∧ Q (.str ⟨cs.toArray⟩) H) := by
  intro pins s σ H x vs v us Q I rx rv h
  obtain ⟨a, cs, rfl, rfl, hS, hl, q⟩ := h
  obtain ⟨t, rfl⟩ := rx
  obtain ⟨u, rfl, ru⟩ := rv.one
  cases ru
  obtain ⟨its, r, pl, hz⟩ := I.list hS
  obtain ⟨l, e1, e2⟩ := ones_vals r
  have e16 : sizeLine = 16777216 := PySem.sizeLine_eq
  have hg : Builtin.Str.glued (Str.ofString "") (l.map (·.1)) = ⟨cs.toArray⟩ := by rw [e2]; exact glued_ones cs
  have hlong : Builtin.Str.tooLong ((l.map (·.1)).toArray.foldl (· + ·.length + (Str.ofString "").length) 0) = false := by
    rw [e2, ones_len]
    unfold Builtin.Str.tooLong
    exact decide_eq_false (by omega)
  refine call_meets F.slot_str_join (typeIs_str _ _ _) F.entry_str_join (F.args_str_join_2 _ _) (meets_str_join_list (Str.ofString "") t a l hlong) ⟨by rw [e1]; exact pl.isList, ?_⟩
  have fin : ∀ t' k, EP X pins σ Q (.str (Builtin.Str.glued (Str.ofString "") (l.map (·.1))) t') { s with toks := k } := fun t' k => by
    rw [hg]
    exact ⟨.str _, H, I.tok _, ⟨_, rfl⟩, q⟩
  have made : (Made.str (Builtin.Str.glued (Str.ofString "") (l.map (·.1)))).post (fun v s' => EP X pins σ Q v s') s := by
    refine ⟨?_, fin _ _⟩
    rw [hg]
    show cs.toArray.size ≤ sizeLine
    rw [List.size_toArray]
    omega
  match l, fin, made with
  | [], _, made => exact made
  | [p], fin, _ => exact (show EP X pins σ Q (.str p.1 p.2) s from by
      have := fin p.2 s.toks
      exact this)
  | p :: p2 :: r', _, made => exact made
theorem op_in_intsK {X : Cx} (K : PySem.W.Frag) (h : X.K = K) : OpR X (compareOp .In) (fun x y H Q => ∃ (z : Int) (p : Addr) (os : List Int), x = .int z ∧ y = .ref p ∧ SqL K H p (os.map V.int) ∧ Q (.bl (decide (z ∈ os))) H) := h ▸ op_in_ints
/-! ### a row as a text -/
def signP (os : List Int) (i : Nat) : Nat := if ((i : Nat) : Int) ∈ os then 111 else 45
def noteL (os : List Int) (n : Nat) : List Nat := (List.range n).map (signP os)
def noteS (os : List Int) (n : Nat) : Str := ⟨(noteL os n).toArray⟩
theorem noteL_succ (os : List Int) (n : Nat) : noteL os (n + 1) = noteL os n ++ [signP os n] := by unfold noteL; rw [List.range_succ, List.map_append]; rfl
/-! ### doubles left out -/
end L2
namespace Lp
open PySem L2
def top (i : Nat) : Stmt := PySem.Challenge.pw_linkpay_k02_rows_refused.main.body.getD i (.Pass ⟨0, 0, 0, 0⟩)
abbrev s_check_links : Stmt := top 11
abbrev s_rises_below : Stmt := top 12
abbrev s_check_row : Stmt := top 13
abbrev s_pieces : Stmt := top 14
abbrev s_sizes : Stmt := top 15
abbrev s_gap : Stmt := top 16
abbrev s_check_few_opened : Stmt := top 19
abbrev s_check_amount : Stmt := top 20
abbrev s_with_piece : Stmt := top 21
abbrev s_ways : Stmt := top 22
abbrev s_payment : Stmt := top 23
abbrev s_payable : Stmt := top 24
abbrev s_held_amount : Stmt := top 26
abbrev s_payment_on_the_day : Stmt := top 27
abbrev s_step : Stmt := top 28
abbrev s_check_length : Stmt := top 31
abbrev s_shown : Stmt := top 32
abbrev s__law_cell_at : Stmt := top 34
abbrev s__law_next : Stmt := top 35
abbrev s__law_row_by : Stmt := top 36
abbrev s__law_other : Stmt := top 37
abbrev s__law_spoilt : Stmt := top 38
abbrev s__law_good : Stmt := top 39
abbrev s__law_called : Stmt := top 40
abbrev s__law_told : Stmt := top 41
abbrev s_law : Stmt := top 42
section
variable {P : Program} {w : World} {K : PySem.W.Frag} {mg : Str → Option Value} {base : Heap}
/-! check_links, also where it refuses -/
def spCheckLinksX (mg : Str → Option Value) : Sp := fun vs H Q E => ∃ (links : Int), vs = [.int links] ∧ links.natAbs.log2 < 1920 ∧ (1 ≤ links ∧ links ≤ 10 ^ 30 → Q .non H) ∧ (¬ (1 ≤ links ∧ links ≤ 10 ^ 30) → ∀ c, mg "NoRow" = some (.ref c) → E (.ref c) none H)
def spCheckLinks : Sp := fun vs H Q _ => ∃ (links : Int), vs = [.int links] ∧ 1 ≤ links ∧ links ≤ 10 ^ 30 ∧ Q .non H
theorem sc_check_links : FnScope ["links"] ["links"] (defScope s_check_links) := ⟨rfl, rfl, rfl, by decide +kernel, rfl, by decide +kernel, by decide +kernel⟩
theorem okX_check_links (D : Df K mg "check_links" ["links"] s_check_links) {c : Addr} (O : XC K mg "NoRow" c) : Cal P w K mg base (CXE P w) 1 "check_links" ["links"] (spCheckLinksX mg) := by
  refine D.okE sc_check_links (fun vs H Q E h => ?_) (fun f cdv A outer s H vs Q E hr h => ?_)
  · obtain ⟨l, rfl, _⟩ := h
    rfl
  · obtain ⟨l, rfl, hlog, q, qe⟩ := h
    refine ⟨_, pss_one (ps_if (pt_not (pt_chain op_le op_le pe_int (pv 0) (pe_op op_pow pe_int pe_int))) (pss_one (ps_raise O throws_cx rfl (pa_cons (pe_fstr (pj_str (pj_int (pv 0) pj_nil)) (by decide +kernel)) pa_nil))) pss_nil), ?_⟩
    have bad : ¬ (1 ≤ l ∧ l ≤ 10 ^ 30) → (tVar 0 (start ["links"] [V.int l]) H fun x H' => H' = H ∧ ∃ i, x = .int i ∧ i.natAbs.log2 < 1920 ∧ True) ∧ ∀ y : Str, [V.str y].length ≤ sizeLine ∧ E (.ref c) none H :=
      fun z => ⟨⟨_, rfl, rfl, _, rfl, hlog, trivial⟩, fun y => ⟨by show 1 ≤ sizeLine; decide, qe z c O.bound⟩⟩
    refine ⟨_, rfl, _, _, rfl, rfl, _, rfl, ite2D (fun h1 => ?_) (fun h1 => ?_)⟩
    · refine ⟨_, _, rfl, rfl, ⟨by decide, by decide, by decide⟩, _, _, rfl, rfl, _, rfl, ite2N (fun h2 => ?_) (fun h2 => ?_)⟩
      · exact bad fun z => h2 z.2
      · exact q ⟨h1, h2⟩
    · exact ⟨_, rfl, iteT (bad fun z => h1 z.1)⟩
theorem ok_check_links (C : Cal P w K mg base (CXE P w) 1 "check_links" ["links"] (spCheckLinksX mg)) : Cal P w K mg base CX0 1 "check_links" ["links"] spCheckLinks :=
  C.down.imp fun vs H Q E h => by
    obtain ⟨l, e, h1, h2, q⟩ := h
    exact ⟨l, e, log_small (by omega) (by omega), fun _ => q, fun z => absurd ⟨h1, h2⟩ z⟩
/-! rises_below -/
def risesB (e : Int) : Int → List Int → Bool
  | _, [] => true
  | b, x :: r => if b < x ∧ x < e then risesB e x r else false
theorem risesB_of : ∀ {e b : Int} {ns : List Int}, ns.Pairwise (· < ·) → (∀ o ∈ ns, b < o ∧ o < e) → risesB e b ns = true
  | _, _, [], _, _ => rfl
  | e, b, x :: r, p, h => by
    obtain ⟨p1, p2⟩ := List.pairwise_cons.mp p
    rw [risesB, if_pos (h x List.mem_cons_self)]
    exact risesB_of p2 fun o ho => ⟨p1 o ho, (h o (List.mem_cons_of_mem _ ho)).2⟩
theorem of_risesB : ∀ {e b : Int} {ns : List Int}, risesB e b ns = true → ns.Pairwise (· < ·) ∧ ∀ o ∈ ns, b < o ∧ o < e
  | _, _, [], _ => ⟨.nil, fun o ho => by simp at ho⟩
  | e, b, x :: r, h => by
    rw [risesB] at h
    split at h
    · rename_i c
      obtain ⟨h1, h2⟩ := of_risesB h
      refine ⟨List.pairwise_cons.mpr ⟨fun o ho => (h2 o ho).1, h1⟩, fun o ho => ?_⟩
      rcases List.mem_cons.mp ho with rfl | ho
      · exact c
      · have := h2 o ho
        omega
    · cases h
def spRises (K : PySem.W.Frag) : Sp := fun vs H Q _ => ∃ (a : Addr) (ns : List Int) (e : Int), vs = [.ref a, .int e] ∧ SqL K H a (ns.map V.int) ∧ Q (.bl (risesB e (-1) ns)) H
theorem sc_rises_below : FnScope ["numbers", "end", "before", "number"] ["numbers", "end"] (defScope s_rises_below) := ⟨rfl, rfl, rfl, by decide +kernel, rfl, by decide +kernel, by decide +kernel⟩
theorem ok_rises_below (D : Df K mg "rises_below" ["numbers", "end"] s_rises_below) : Cal P w K mg base CX0 1 "rises_below" ["numbers", "end"] (spRises K) := by
  have S := sc_rises_below
  refine D.ok S (fun vs H Q E h => ?_) (fun f cdv A outer s H vs Q E hr h => ?_)
  · obtain ⟨a, ns, e, rfl, _⟩ := h
    rfl
  · obtain ⟨a, ns, e, rfl, hS, q⟩ := h
    refine ⟨_, pss_cons (ps_set (i := 2) S.nd rfl (Or.inl rfl) (pe_un un_neg pe_int))
      (pss_cons (ps_for PassesOwn.never rfl (pi_list (pv 0)) (pg_name (i := 3) S.nd rfl (Or.inl rfl))
        (pss_cons (ps_if (pt_not (pt_chain op_lt op_lt (pv 2) (pv 3) (pv 1))) (pss_one (ps_ret pe_bl)) pss_nil)
        (pss_one (ps_set (i := 2) S.nd rfl (Or.inl rfl) (pv 3)))))
      (pss_one (ps_ret pe_bl))), ?_⟩
    refine ⟨_, rfl, _, rfl, a, rfl, ⟨_, hS⟩, for_list (K := K) (a := a) (xs := ns.map V.int) (fun i σ H' => H' = H ∧ ∃ (b : Int) (v : Option V), σ = [some (.ref a), some (.int e), some (.int b), v] ∧ risesB e (-1) ns = risesB e b (ns.drop i)) ?_ ?_ ?_ ?_⟩
    · exact ⟨rfl, -1, none, rfl, rfl⟩
    · rintro i σ H' _ ⟨rfl, _⟩
      exact hS
    · rintro i x σ H' hi ⟨rfl, b, v, rfl, hb⟩
      obtain ⟨z, rfl, hz⟩ := map_get hi
      obtain ⟨hlt, ez⟩ := List.getElem?_eq_some_iff.mp hz
      have ed : ns.drop i = z :: ns.drop (i + 1) := by rw [List.drop_eq_getElem_cons hlt, ez]
      rw [ed, risesB] at hb
      refine ⟨_, rfl, _, rfl, _, _, rfl, rfl, _, rfl, ite2D (fun c => ?_) (fun c => ?_)⟩
      · refine ⟨_, rfl, _, _, rfl, rfl, _, rfl, ite2N (fun d => ?_) (fun d => ?_)⟩
        · rw [if_neg (by omega)] at hb
          rw [hb] at q
          exact q
        · rw [if_pos ⟨c, d⟩] at hb
          exact ⟨_, rfl, rfl, z, _, rfl, hb⟩
      · rw [if_neg (by omega)] at hb
        rw [hb] at q
        exact ⟨_, rfl, iteT q⟩
    · rintro σ H' ⟨rfl, b, v, rfl, hb⟩
      rw [List.length_map, List.drop_length] at hb
      rw [hb] at q
      exact q
/-! check_row -/
def spCheckRow (K : PySem.W.Frag) : Sp := fun vs H Q _ => ∃ (links : Int) (a : Addr) (os : List Int), vs = [.int links, .ref a] ∧ SqL K H a (os.map V.int) ∧ RowOk links os 100 ∧ Q .non H
theorem sc_check_row : FnScope ["links", "opened"] ["links", "opened"] (defScope s_check_row) := ⟨rfl, rfl, rfl, by decide +kernel, rfl, by decide +kernel, by decide +kernel⟩
theorem row_rises {links : Int} {os : List Int} {m : Nat} (R : RowOk links os m) : risesB links (-1) os = true := risesB_of R.inc fun o ho => by have := R.rng o ho; omega
theorem ok_check_row (D : Df K mg "check_row" ["links", "opened"] s_check_row) (B : Bl mg) (hM : ∃ t, mg "MOST_OPENED" = some (.int 100 t)) (C1 : Cal P w K mg base CX0 1 "check_links" ["links"] spCheckLinks)
    (C2 : Cal P w K mg base CX0 1 "rises_below" ["numbers", "end"] (spRises K)) : Cal P w K mg base CX0 2 "check_row" ["links", "opened"] (spCheckRow K) := by
  have S := sc_check_row
  obtain ⟨tM, hM⟩ := hM
  refine D.ok S (fun vs H Q E h => ?_) (fun f cdv A outer s H vs Q E hr h => ?_)
  · obtain ⟨l, a, os, rfl, _⟩ := h
    rfl
  · obtain ⟨links, a, os, rfl, hS, R, q⟩ := h
    refine ⟨_, pss_cons (ps_expr (pe_calf C1 hr rfl (pa_cons (pv 0) pa_nil)))
      (pss_one (ps_if (pt_or2 (pt_cmpR op_gt (pe_callB call_len_seq rfl B.n_len bb_len (pa_cons (pv 1) pa_nil)) (pe_glob (v := .int 100) rfl hM ⟨_, rfl⟩) (nomark _))
        (pt_not (pt_val (pe_calf C2 hr rfl (pa_cons (pv 1) (pa_cons (pv 0) pa_nil)))))) pss_never pss_nil)), ?_⟩
    refine ⟨_, rfl, links, rfl, R.lo, R.hi, ?_⟩
    refine ⟨_, rfl, a, _, rfl, .inl hS, _, _, rfl, rfl, _, rfl, iteDn (by have := R.len; rw [List.length_map]; omega) ?_⟩
    refine ⟨_, rfl, _, rfl, a, os, links, rfl, hS, _, rfl, ?_⟩
    rw [row_rises R]
    exact q
/-! where a row is none -/
def GoodR (links : Int) (os : List Int) : Prop := os.length ≤ 100 ∧ risesB links (-1) os = true
def BadR (mg : Str → Option Value) (links : Int) (os : List Int) (E : XK) (H : Hp) : Prop := (¬ (1 ≤ links ∧ links ≤ 10 ^ 30) ∧ ∀ c, mg "NoRow" = some (.ref c) → E (.ref c) none H) ∨
  ((1 ≤ links ∧ links ≤ 10 ^ 30) ∧ ¬ GoodR links os ∧ ∀ c, mg "NoOpened" = some (.ref c) → E (.ref c) none H)
def spBadR (K : PySem.W.Frag) (mg : Str → Option Value) : Sp := fun vs H _ E => ∃ (links : Int) (a : Addr) (os : List Int), vs = [.int links, .ref a] ∧ SqL K H a (os.map V.int) ∧ -(10 ^ 40) ≤ links ∧ links ≤ 10 ^ 40 ∧ BadR mg links os E H
def spBadR3 (K : PySem.W.Frag) (mg : Str → Option Value) : Sp := fun vs H _ E => ∃ (links : Int) (a : Addr) (os : List Int) (v : V), vs = [.int links, .ref a, v] ∧ SqL K H a (os.map V.int) ∧ -(10 ^ 40) ≤ links ∧ links ≤ 10 ^ 40 ∧ BadR mg links os E H
theorem okR_check_row (D : Df K mg "check_row" ["links", "opened"] s_check_row) (B : Bl mg) (hM : ∃ t, mg "MOST_OPENED" = some (.int 100 t)) {c : Addr} (O : XC K mg "NoOpened" c) (C1 : Cal P w K mg base (CXE P w) 1 "check_links" ["links"] (spCheckLinksX mg))
    (C2 : Cal P w K mg base CX0 1 "rises_below" ["numbers", "end"] (spRises K)) : Cal P w K mg base (CXE P w) 2 "check_row" ["links", "opened"] (spBadR K mg) := by
  have S := sc_check_row
  obtain ⟨tM, hM⟩ := hM
  refine D.okE S (fun vs H Q E h => ?_) (fun f cdv A outer s H vs Q E hr h => ?_)
  · obtain ⟨l, a, os, rfl, _⟩ := h
    rfl
  · obtain ⟨links, a, os, rfl, hS, l0, l1, bad⟩ := h
    have lg : links.natAbs.log2 < 1920 := log_small l0 l1
    refine ⟨_, pss_cons (ps_expr (pe_calE C1 throws_cx hr rfl (pa_cons (pv 0) pa_nil)))
      (pss_one (ps_if (pt_or2 (pt_cmpR op_gt (pe_callB call_len_seq rfl B.n_len bb_len (pa_cons (pv 1) pa_nil)) (pe_glob (v := .int 100) rfl hM ⟨_, rfl⟩) (nomark _))
        (pt_not (pt_val (pe_calf C2 hr rfl (pa_cons (pv 1) (pa_cons (pv 0) pa_nil))))))
        (pss_one (ps_raise O throws_cx rfl (pa_cons (pe_fstr (pj_str (pj_int (pe_glob (v := .int 100) rfl hM ⟨_, rfl⟩) (pj_str (pj_int (pv 0) pj_nil)))) (by decide +kernel)) pa_nil))) pss_nil)), ?_⟩
    refine ⟨_, rfl, links, rfl, lg, fun gl => ?_, fun nl c' hc => ?_⟩
    · rcases bad with ⟨z, _⟩ | ⟨_, ng, qe⟩
      · exact absurd gl z
      · refine ⟨_, rfl, a, _, rfl, .inl hS, _, _, rfl, rfl, _, rfl, ite2D (fun k => ?_) (fun k => ?_)⟩
        · exact ⟨⟨rfl, _, rfl, (by decide), _, rfl, rfl, _, rfl, lg, trivial⟩, fun y => ⟨by show 1 ≤ sizeLine; decide, qe c O.bound⟩⟩
        · rw [List.length_map] at k
          refine ⟨_, rfl, _, rfl, a, os, links, rfl, hS, _, rfl, ?_⟩
          have hb : risesB links (-1) os = false := by
            cases e : risesB links (-1) os with
            | false => rfl
            | true => exact absurd ⟨by omega, e⟩ ng
          rw [hb]
          exact iteT ⟨⟨rfl, _, rfl, (by decide), _, rfl, rfl, _, rfl, lg, trivial⟩, fun y => ⟨by show 1 ≤ sizeLine; decide, qe c O.bound⟩⟩
    · rcases bad with ⟨_, qe⟩ | ⟨z, _⟩
      · exact qe c' hc
      · exact absurd z nl
/-! pieces -/
def spPieces (K : PySem.W.Frag) : Sp := fun vs H Q _ => ∃ (links : Int) (a : Addr) (os : List Int), vs = [.int links, .ref a] ∧ SqL K H a (os.map V.int) ∧ RowOk links os 100 ∧
  ∀ (p : Addr) (vs' : List V) (H' : Hp), H p = none → Grow H H' p vs' (piecesP links os) → Q (.ref p) H'
theorem sc_pieces : FnScope ["links", "opened", "told", "first", "link"] ["links", "opened"] (defScope s_pieces) := ⟨rfl, rfl, rfl, by decide +kernel, rfl, by decide +kernel, by decide +kernel⟩
theorem ok_pieces (D : Df K mg "pieces" ["links", "opened"] s_pieces) (C1 : Cal P w K mg base CX0 2 "check_row" ["links", "opened"] (spCheckRow K)) :
    Cal P w K mg base CX0 3 "pieces" ["links", "opened"] (spPieces K) := by
  have S := sc_pieces
  refine D.ok S (fun vs H Q E h => ?_) (fun f cdv A outer s H vs Q E hr h => ?_)
  · obtain ⟨l, a, os, rfl, _⟩ := h
    rfl
  · obtain ⟨links, a, os, rfl, hS, R, q⟩ := h
    refine ⟨_, pss_cons (ps_expr (pe_calf C1 hr rfl (pa_cons (pv 0) (pa_cons (pv 1) pa_nil))))
      (pss_cons (ps_set (i := 2) S.nd rfl (Or.inl rfl) (pe_lst pa_nil))
      (pss_cons (ps_set (i := 3) S.nd rfl (Or.inl rfl) pe_int)
      (pss_cons (ps_for PassesOwn.never rfl (pi_list (pv 1)) (pg_name (i := 4) S.nd rfl (Or.inl rfl))
        (pss_cons (ps_cut (ps_if (pt_cmpR op_lt (pv 3) (pv 4) (nomark _))
            (pss_one (ps_expr (pe_bm PySem.F.plainAttrs_list PySem.F.slot_list_append PySem.F.type_list_append mt_append (pv 2) (pa_cons (pe_tup (pa_cons (pv 3) (pa_cons (pe_op op_sub (pv 4) (pv 3)) pa_nil))) pa_nil)))) pss_nil))
        (pss_cons (ps_expr (pe_bm PySem.F.plainAttrs_list PySem.F.slot_list_append PySem.F.type_list_append mt_append (pv 2) (pa_cons (pe_tup (pa_cons (pv 4) (pa_cons pe_int pa_nil))) pa_nil)))
        (pss_one (ps_set (i := 3) S.nd rfl (Or.inl rfl) (pe_op op_add (pv 4) pe_int))))))
      (pss_cons (ps_cut (ps_if (pt_cmpR op_lt (pv 3) (pv 0) (nomark _))
          (pss_one (ps_expr (pe_bm PySem.F.plainAttrs_list PySem.F.slot_list_append PySem.F.type_list_append mt_append (pv 2) (pa_cons (pe_tup (pa_cons (pv 3) (pa_cons (pe_op op_sub (pv 0) (pv 3)) pa_nil))) pa_nil)))) pss_nil))
      (pss_one (ps_ret (pv 2))))))), ?_⟩
    have big : ∀ n : Nat, n ≤ 1000 → n < sizeLine := fun n h => small1000 h
    refine ⟨_, rfl, _, rfl, links, a, os, rfl, hS, R, ?_⟩
    refine ⟨by show 0 ≤ sizeLine; decide, fun l hl => ?_⟩
    refine ⟨_, rfl, a, rfl, ⟨_, (same_new hl _).seq hS⟩, for_list (K := K) (a := a) (xs := os.map V.int) (fun i σ H' => ∃ (ws : List V) (v : Option V),
      σ = [some (.int links), some (.ref a), some (.ref l), some (.int ((os.take i).foldl stepP ([], 0)).2), v] ∧ Grow H H' l ws ((os.take i).foldl stepP ([], 0)).1) ?_ ?_ ?_ ?_⟩
    · exact ⟨[], none, rfl, same_new hl _, upd_same, .nil⟩
    · rintro i σ H' _ ⟨ws, v, rfl, G⟩
      exact G.same.seq hS
    · rintro i x σ H1 hi ⟨ws, v, rfl, G⟩
      obtain ⟨z, rfl, hz⟩ := map_get hi
      have hlen : ((os.take i).foldl stepP ([], 0)).1.length ≤ 200 := by
        have h1 := foldP_len (os.take i) ([], 0)
        have h2 := R.len
        have h3 : (os.take i).length ≤ os.length := by rw [List.length_take]; omega
        simp only [List.length_nil] at h1
        omega
      have ef := fold_take stepP (([], 0) : List (Int × Int) × Int) hz
      refine ⟨fun σ2 H2 => ∃ (ws : List V), σ2 = [some (.int links), some (.ref a), some (.ref l), some (.int ((os.take i).foldl stepP ([], 0)).2), some (.int z)] ∧
        Grow H H2 l ws (((os.take i).foldl stepP ([], 0)).1 ++ if ((os.take i).foldl stepP ([], 0)).2 < z then [(((os.take i).foldl stepP ([], 0)).2, z - ((os.take i).foldl stepP ([], 0)).2)] else []), ?_, ?_⟩
      · refine ⟨_, rfl, _, rfl, _, _, rfl, rfl, _, rfl, ite2D (fun c => ?_) (fun c => ?_)⟩
        · refine ⟨_, rfl, .inl ⟨rfl, _, SqL.of G.at_⟩, _, rfl, _, rfl, _, rfl, _, _, rfl, rfl, (by show 2 ≤ sizeLine; decide), fun t ht => ?_⟩
          refine ⟨l, _, _, rfl, rfl, (G.tup ht).at_, big _ (by have := G.tups.length; omega), ?_⟩
          refine ⟨ws ++ [.ref t], rfl, ?_⟩
          rw [if_pos c]
          exact G.push hl ht
        · refine ⟨ws, rfl, ?_⟩
          rw [if_neg c, List.append_nil]
          exact G
      · rintro σ2 H2 ⟨ws2, rfl, G2⟩
        have hlen2 : ws2.length ≤ 201 := by
          rw [G2.tups.length, List.length_append]
          split <;> simp <;> omega
        refine ⟨_, rfl, .inl ⟨rfl, _, SqL.of G2.at_⟩, _, rfl, (by show 2 ≤ sizeLine; decide), fun t ht => ?_⟩
        refine ⟨l, _, _, rfl, rfl, (G2.tup ht).at_, big _ (by omega), ?_⟩
        refine ⟨_, rfl, _, _, rfl, rfl, ?_⟩
        refine ⟨ws2 ++ [.ref t], some (.int z), ?_, ?_⟩
        rotate_left
        · rw [ef]
          exact G2.push hl ht
        · rw [ef]
          rfl
    · rintro σ H1 ⟨ws, v, rfl, G⟩
      rw [List.length_map, List.take_length] at G
      have hlen : (os.foldl stepP ([], 0)).1.length ≤ 200 := by
        have h1 := foldP_len os ([], 0)
        have h2 := R.len
        simp only [List.length_nil] at h1
        omega
      refine ⟨fun σ2 H2 => ∃ (ws : List V) (v2 v3 : Option V), σ2 = [some (.int links), some (.ref a), some (.ref l), v2, v3] ∧ Grow H H2 l ws (piecesP links os), ?_, ?_⟩
      · refine ⟨_, rfl, _, rfl, _, _, rfl, rfl, _, rfl, ite2D (fun c => ?_) (fun c => ?_)⟩
        · rw [List.length_map, List.take_length] at c
          refine ⟨_, rfl, .inl ⟨rfl, _, SqL.of G.at_⟩, _, rfl, _, rfl, _, rfl, _, _, rfl, rfl, (by show 2 ≤ sizeLine; decide), fun t ht => ?_⟩
          refine ⟨l, _, _, rfl, rfl, (G.tup ht).at_, big _ (by have := G.tups.length; omega), ?_⟩
          refine ⟨ws ++ [.ref t], _, _, rfl, ?_⟩
          unfold piecesP
          rw [if_pos c, List.length_map, List.take_length]
          exact G.push hl ht
        · rw [List.length_map, List.take_length] at c
          refine ⟨ws, _, _, rfl, ?_⟩
          unfold piecesP
          rw [if_neg c, List.append_nil]
          exact G
      · rintro σ2 H2 ⟨ws2, v2, v3, rfl, G2⟩
        exact ⟨_, rfl, q l ws2 H2 hl G2⟩
theorem okR_pieces (D : Df K mg "pieces" ["links", "opened"] s_pieces) (C1 : Cal P w K mg base (CXE P w) 2 "check_row" ["links", "opened"] (spBadR K mg)) : Cal P w K mg base (CXE P w) 3 "pieces" ["links", "opened"] (spBadR K mg) := by
  refine D.okE sc_pieces (fun vs H Q E h => ?_) (fun f cdv A outer s H vs Q E hr h => ?_)
  · obtain ⟨l, a, os, rfl, _⟩ := h
    rfl
  · obtain ⟨links, a, os, rfl, rest⟩ := h
    exact ⟨_, pss_cons (ps_expr (pe_calE C1 throws_cx hr rfl (pa_cons (pv 0) (pa_cons (pv 1) pa_nil)))) pss_never, _, rfl, _, rfl, links, a, os, rfl, rest⟩
/-! sizes -/
def spSizes (K : PySem.W.Frag) : Sp := fun vs H Q _ => ∃ (links : Int) (a : Addr) (os : List Int), vs = [.int links, .ref a] ∧ SqL K H a (os.map V.int) ∧ RowOk links os 100 ∧
  ∀ (p : Addr) (H' : Hp), Same H H' → H p = none → H' p = some (.lst ((sizesP links os).map V.int)) → Q (.ref p) H'
theorem sc_sizes : FnScope ["links", "opened"] ["links", "opened"] (defScope s_sizes) := ⟨rfl, rfl, rfl, by decide +kernel, rfl, by decide +kernel, by decide +kernel⟩
theorem ok_sizes (D : Df K mg "sizes" ["links", "opened"] s_sizes) (C1 : Cal P w K mg base CX0 3 "pieces" ["links", "opened"] (spPieces K)) : Cal P w K mg base CX0 4 "sizes" ["links", "opened"] (spSizes K) := by
  have S := sc_sizes
  refine D.ok S (fun vs H Q E h => ?_) (fun f cdv A outer s H vs Q E hr h => ?_)
  · obtain ⟨l, a, os, rfl, _⟩ := h
    rfl
  · obtain ⟨links, a, os, rfl, hS, R, q⟩ := h
    refine ⟨_, pss_one (ps_ret (pe_lcomp (N := ["piece"]) (BlkS.plain rfl (by decide +kernel) (by decide +kernel)) rfl (pi_list (pe_calf C1 hr rfl (pa_cons (pv 0) (pa_cons (pv 1) pa_nil))))
      (fun _ _ _ _ _ => pg_name (i := 0) (nd_one _) rfl (Or.inl rfl)) (fun _ _ _ _ _ => pts_nil) (fun _ _ _ _ _ => pe_ix (ix_tupK K rfl) (pv 0) pe_int (fun _ _ => rfl)))), ?_⟩
    refine ⟨_, rfl, _, rfl, links, a, os, rfl, hS, R, fun p vs' H1 hp G => ?_⟩
    refine ⟨p, rfl, ⟨_, SqL.of G.at_⟩, fun D hD => ⟨_, FromOuter.none, ?_⟩⟩
    exact lc_sizes hp G hD (by have := R.len; have := piecesP_len links os; omega) fun H2 s2 hD2 => q D H2 s2 (G.same.free hD) hD2
theorem okR_sizes (D : Df K mg "sizes" ["links", "opened"] s_sizes) (C1 : Cal P w K mg base (CXE P w) 3 "pieces" ["links", "opened"] (spBadR K mg)) : Cal P w K mg base (CXE P w) 4 "sizes" ["links", "opened"] (spBadR K mg) := by
  refine D.okE sc_sizes (fun vs H Q E h => ?_) (fun f cdv A outer s H vs Q E hr h => ?_)
  · obtain ⟨l, a, os, rfl, _⟩ := h
    rfl
  · obtain ⟨links, a, os, rfl, hS, l0, l1, bad⟩ := h
    refine ⟨_, pss_one (ps_ret (pe_lcomp (N := ["piece"]) (BlkS.plain rfl (by decide +kernel) (by decide +kernel)) rfl (pi_list (pe_calE C1 throws_cx hr rfl (pa_cons (pv 0) (pa_cons (pv 1) pa_nil))))
      (fun _ _ _ _ _ => pg_name (i := 0) (nd_one _) rfl (Or.inl rfl)) (fun _ _ _ _ _ => pts_nil) (fun _ _ _ _ _ => pe_ix (ix_tupK K rfl) (pv 0) pe_int (fun _ _ => rfl)))), ?_⟩
    exact ⟨_, rfl, _, rfl, links, a, os, rfl, hS, l0, l1, bad⟩
/-! gap -/
def gapV (o : Option Int) : V := match o with
  | some g => .int g
  | none => .non
def spGap (K : PySem.W.Frag) : Sp := fun vs H Q _ => ∃ (links : Int) (a : Addr) (os : List Int), vs = [.int links, .ref a] ∧ SqL K H a (os.map V.int) ∧ RowOk links os 100 ∧ (os.length ≤ 30 ∨ (sizesP links os).Pairwise (· ≤ ·)) ∧
  ∀ (ys : List Int) (H' : Hp), Same H H' → ys.Perm (sizesP links os) → ys.Pairwise (· ≤ ·) → Q (gapV (gapOf 0 ys)) H'
theorem sc_gap : FnScope ["links", "opened", "reach", "size"] ["links", "opened"] (defScope s_gap) := ⟨rfl, rfl, rfl, by decide +kernel, rfl, by decide +kernel, by decide +kernel⟩
theorem ok_gap (D : Df K mg "gap" ["links", "opened"] s_gap) (B : Bl mg) (C1 : Cal P w K mg base CX0 4 "sizes" ["links", "opened"] (spSizes K)) : Cal P w K mg base CX0 5 "gap" ["links", "opened"] (spGap K) := by
  have S := sc_gap
  refine D.ok S (fun vs H Q E h => ?_) (fun f cdv A outer s H vs Q E hr h => ?_)
  · obtain ⟨l, a, os, rfl, _⟩ := h
    rfl
  · obtain ⟨links, a, os, rfl, hS, R, hq, q⟩ := h
    refine ⟨_, pss_cons (ps_set (i := 2) S.nd rfl (Or.inl rfl) pe_int)
      (pss_cons (ps_for PassesOwn.never rfl (pi_list (pe_callB call_sorted2 rfl B.n_sorted bb_sorted (pa_cons (pe_calf C1 hr rfl (pa_cons (pv 0) (pa_cons (pv 1) pa_nil))) pa_nil))) (pg_name (i := 3) S.nd rfl (Or.inl rfl))
        (pss_cons (ps_if (pt_cmpR op_gt (pv 3) (pe_op op_add (pv 2) pe_int) (nomark _)) (pss_one (ps_ret (pe_op op_add (pv 2) pe_int))) pss_nil)
        (pss_one (ps_aug (i := 2) S.nd rfl (Or.inl rfl) (pv 3) ip_add))))
      (pss_one (ps_ret pe_non))), ?_⟩
    refine ⟨_, rfl, _, rfl, links, a, os, rfl, hS, R, fun p H1 s1 hp hP => ?_⟩
    refine ⟨p, _, rfl, SqL.of hP, (by have := sizes_len (links := links) (os := os); have := R.len; rcases hq with z | z; exact .inl (by omega); exact .inr ⟨z, by omega⟩), fun l ys hl pm so => ?_⟩
    have s2 : Same H (upd H1 l (.lst (ys.map V.int))) := s1.trans (same_new hl _)
    refine ⟨l, rfl, ⟨_, SqL.of upd_same⟩, ?_⟩
    refine for_list (K := K) (a := l) (xs := ys.map V.int) (fun i σ H' => H' = upd H1 l (.lst (ys.map V.int)) ∧ ∃ (r : Int) (v : Option V), σ = [some (.int links), some (.ref a), some (.int r), v] ∧ gapOf 0 ys = gapOf r (ys.drop i)) ?_ ?_ ?_ ?_
    · exact ⟨rfl, 0, none, rfl, rfl⟩
    · rintro i σ H' _ ⟨rfl, _⟩
      exact SqL.of upd_same
    · rintro i x σ H' hi ⟨rfl, r, v, rfl, hg⟩
      obtain ⟨z, rfl, hz⟩ := map_get hi
      obtain ⟨hlt, ez⟩ := List.getElem?_eq_some_iff.mp hz
      have ed : ys.drop i = z :: ys.drop (i + 1) := by rw [List.drop_eq_getElem_cons hlt, ez]
      rw [ed, gapOf] at hg
      refine ⟨_, rfl, _, rfl, _, _, rfl, rfl, _, _, rfl, rfl, _, rfl, ite2D (fun c => ?_) (fun c => ?_)⟩
      · rw [if_pos c] at hg
        refine ⟨_, rfl, _, _, rfl, rfl, ?_⟩
        have := q ys _ s2 pm so
        rw [hg] at this
        exact this
      · rw [if_neg c] at hg
        exact ⟨_, rfl, _, rfl, _, _, rfl, rfl, rfl, _, _, rfl, hg⟩
    · rintro σ H' ⟨rfl, r, v, rfl, hg⟩
      rw [List.length_map, List.drop_length] at hg
      have := q ys _ s2 pm so
      rw [hg] at this
      exact this
theorem okR_gap (D : Df K mg "gap" ["links", "opened"] s_gap) (B : Bl mg) (C1 : Cal P w K mg base (CXE P w) 4 "sizes" ["links", "opened"] (spBadR K mg)) : Cal P w K mg base (CXE P w) 5 "gap" ["links", "opened"] (spBadR K mg) := by
  have S := sc_gap
  refine D.okE S (fun vs H Q E h => ?_) (fun f cdv A outer s H vs Q E hr h => ?_)
  · obtain ⟨l, a, os, rfl, _⟩ := h
    rfl
  · obtain ⟨links, a, os, rfl, hS, l0, l1, bad⟩ := h
    refine ⟨_, pss_cons (ps_set (i := 2) S.nd rfl (Or.inl rfl) pe_int)
      (pss_cons (ps_for PassesOwn.leaving rfl (pi_list (pe_callB call_sorted rfl B.n_sorted bb_sorted (pa_cons (pe_calE C1 throws_cx hr rfl (pa_cons (pv 0) (pa_cons (pv 1) pa_nil))) pa_nil))) (pg_name (i := 3) S.nd rfl (Or.inl rfl)) pss_never)
      pss_never), ?_⟩
    exact ⟨_, rfl, _, rfl, links, a, os, rfl, hS, l0, l1, bad⟩
/-! check_few_opened -/
def spFew (K : PySem.W.Frag) : Sp := fun vs H Q _ => ∃ (links : Int) (a : Addr) (os : List Int), vs = [.int links, .ref a] ∧ SqL K H a (os.map V.int) ∧ RowOk links os 8 ∧ Q .non H
theorem sc_check_few_opened : FnScope ["links", "opened"] ["links", "opened"] (defScope s_check_few_opened) := ⟨rfl, rfl, rfl, by decide +kernel, rfl, by decide +kernel, by decide +kernel⟩
theorem ok_check_few_opened (D : Df K mg "check_few_opened" ["links", "opened"] s_check_few_opened) (B : Bl mg) (hM : ∃ t, mg "MOST_OPENED_TO_PAY" = some (.int 8 t)) (C1 : Cal P w K mg base CX0 2 "check_row" ["links", "opened"] (spCheckRow K)) :
    Cal P w K mg base CX0 3 "check_few_opened" ["links", "opened"] (spFew K) := by
  obtain ⟨tM, hM⟩ := hM
  refine D.ok sc_check_few_opened (fun vs H Q E h => ?_) (fun f cdv A outer s H vs Q E hr h => ?_)
  · obtain ⟨l, a, os, rfl, _⟩ := h
    rfl
  · obtain ⟨links, a, os, rfl, hS, R, q⟩ := h
    refine ⟨_, pss_cons (ps_expr (pe_calf C1 hr rfl (pa_cons (pv 0) (pa_cons (pv 1) pa_nil))))
      (pss_one (ps_if (pt_cmpR op_gt (pe_callB call_len_seq rfl B.n_len bb_len (pa_cons (pv 1) pa_nil)) (pe_glob (v := .int 8) rfl hM ⟨_, rfl⟩) (nomark _)) pss_never pss_nil)), ?_⟩
    refine ⟨_, rfl, _, rfl, links, a, os, rfl, hS, R.mono (by decide), ?_⟩
    exact ⟨_, rfl, a, _, rfl, .inl hS, _, _, rfl, rfl, _, rfl, iteDn (by have := R.len; rw [List.length_map]; omega) q⟩
/-! check_few_opened, also where it refuses -/
def spFewX (K : PySem.W.Frag) (mg : Str → Option Value) : Sp := fun vs H Q E => ∃ (links : Int) (a : Addr) (os : List Int), vs = [.int links, .ref a] ∧ SqL K H a (os.map V.int) ∧ RowOk links os 100 ∧ (os.length ≤ 8 → Q .non H) ∧
  (8 < os.length → ∀ c, mg "TooMany" = some (.ref c) → E (.ref c) none H)
theorem okX_check_few_opened (D : Df K mg "check_few_opened" ["links", "opened"] s_check_few_opened) (B : Bl mg) (hM : ∃ t, mg "MOST_OPENED_TO_PAY" = some (.int 8 t)) {c : Addr} (O : XC K mg "TooMany" c) (C1 : Cal P w K mg base CX0 2 "check_row" ["links", "opened"] (spCheckRow K)) :
    Cal P w K mg base (CXE P w) 3 "check_few_opened" ["links", "opened"] (spFewX K mg) := by
  obtain ⟨tM, hM⟩ := hM
  refine D.okE sc_check_few_opened (fun vs H Q E h => ?_) (fun f cdv A outer s H vs Q E hr h => ?_)
  · obtain ⟨l, a, os, rfl, _⟩ := h
    rfl
  · obtain ⟨links, a, os, rfl, hS, R, q, qe⟩ := h
    refine ⟨_, pss_cons (ps_expr (pe_calf C1 hr rfl (pa_cons (pv 0) (pa_cons (pv 1) pa_nil))))
      (pss_one (ps_if (pt_cmpR op_gt (pe_callB call_len_seq rfl B.n_len bb_len (pa_cons (pv 1) pa_nil)) (pe_glob (v := .int 8) rfl hM ⟨_, rfl⟩) (nomark _))
        (pss_one (ps_raise O throws_cx rfl (pa_cons (pe_fstr (pj_str (pj_int (pe_glob (v := .int 8) rfl hM ⟨_, rfl⟩) (pj_str pj_nil))) (by decide +kernel)) pa_nil))) pss_nil)), ?_⟩
    refine ⟨_, rfl, _, rfl, links, a, os, rfl, hS, R, ?_⟩
    refine ⟨_, rfl, a, _, rfl, .inl hS, _, _, rfl, rfl, _, rfl, ite2D (fun k => ?_) (fun k => ?_)⟩
    · rw [List.length_map] at k
      exact ⟨⟨rfl, _, rfl, (by decide), trivial⟩, fun y => ⟨by show 1 ≤ sizeLine; decide, qe (by omega) c O.bound⟩⟩
    · rw [List.length_map] at k
      exact q (by omega)
theorem okR_check_few_opened (D : Df K mg "check_few_opened" ["links", "opened"] s_check_few_opened) (C1 : Cal P w K mg base (CXE P w) 2 "check_row" ["links", "opened"] (spBadR K mg)) : Cal P w K mg base (CXE P w) 3 "check_few_opened" ["links", "opened"] (spBadR K mg) := by
  refine D.okE sc_check_few_opened (fun vs H Q E h => ?_) (fun f cdv A outer s H vs Q E hr h => ?_)
  · obtain ⟨l, a, os, rfl, _⟩ := h
    rfl
  · obtain ⟨links, a, os, rfl, rest⟩ := h
    exact ⟨_, pss_cons (ps_expr (pe_calE C1 throws_cx hr rfl (pa_cons (pv 0) (pa_cons (pv 1) pa_nil)))) pss_never, _, rfl, _, rfl, links, a, os, rfl, rest⟩
/-! check_amount -/
def spAmount (K : PySem.W.Frag) : Sp := fun vs H Q _ => ∃ (links : Int) (a : Addr) (os : List Int) (amount : Int), vs = [.int links, .ref a, .int amount] ∧ SqL K H a (os.map V.int) ∧ RowOk links os 8 ∧ 0 ≤ amount ∧ amount ≤ links ∧ Q .non H
theorem sc_check_amount : FnScope ["links", "opened", "amount"] ["links", "opened", "amount"] (defScope s_check_amount) := ⟨rfl, rfl, rfl, by decide +kernel, rfl, by decide +kernel, by decide +kernel⟩
theorem ok_check_amount (D : Df K mg "check_amount" ["links", "opened", "amount"] s_check_amount) (C1 : Cal P w K mg base CX0 3 "check_few_opened" ["links", "opened"] (spFew K)) :
    Cal P w K mg base CX0 4 "check_amount" ["links", "opened", "amount"] (spAmount K) := by
  refine D.ok sc_check_amount (fun vs H Q E h => ?_) (fun f cdv A outer s H vs Q E hr h => ?_)
  · obtain ⟨l, a, os, m, rfl, _⟩ := h
    rfl
  · obtain ⟨links, a, os, amount, rfl, hS, R, h0, h1, q⟩ := h
    refine ⟨_, pss_cons (ps_expr (pe_calf C1 hr rfl (pa_cons (pv 0) (pa_cons (pv 1) pa_nil))))
      (pss_one (ps_if (pt_not (pt_chain op_le op_le pe_int (pv 2) (pv 0))) pss_never pss_nil)), ?_⟩
    refine ⟨_, rfl, _, rfl, links, a, os, rfl, hS, R, ?_⟩
    exact ⟨_, rfl, _, _, rfl, rfl, _, rfl, iteD h0 ⟨_, rfl, _, _, rfl, rfl, _, rfl, iteNS h1 q⟩⟩
/-! check_amount where it refuses -/
def BadA (mg : Str → Option Value) (links amount : Int) (os : List Int) (E : XK) (H : Hp) : Prop := (8 < os.length ∧ ∀ c, mg "TooMany" = some (.ref c) → E (.ref c) none H) ∨
  (os.length ≤ 8 ∧ ¬ (0 ≤ amount ∧ amount ≤ links) ∧ ∀ c, mg "NoAmount" = some (.ref c) → E (.ref c) none H)
def spBadA (K : PySem.W.Frag) (mg : Str → Option Value) : Sp := fun vs H _ E => ∃ (links : Int) (a : Addr) (os : List Int) (amount : Int), vs = [.int links, .ref a, .int amount] ∧ SqL K H a (os.map V.int) ∧ RowOk links os 100 ∧ -(10 ^ 40) ≤ amount ∧ amount ≤ 10 ^ 40 ∧ BadA mg links amount os E H
theorem okB_check_amount (D : Df K mg "check_amount" ["links", "opened", "amount"] s_check_amount) {c : Addr} (O : XC K mg "NoAmount" c) (C1 : Cal P w K mg base (CXE P w) 3 "check_few_opened" ["links", "opened"] (spFewX K mg)) :
    Cal P w K mg base (CXE P w) 4 "check_amount" ["links", "opened", "amount"] (spBadA K mg) := by
  refine D.okE sc_check_amount (fun vs H Q E h => ?_) (fun f cdv A outer s H vs Q E hr h => ?_)
  · obtain ⟨l, a, os, m, rfl, _⟩ := h
    rfl
  · obtain ⟨links, a, os, amount, rfl, hS, R, h0, h1, bad⟩ := h
    have hlo := R.lo
    have hhi := R.hi
    have lg1 : links.natAbs.log2 < 1920 := log_small (by omega) (by omega)
    have lg2 : amount.natAbs.log2 < 1920 := log_small h0 h1
    refine ⟨_, pss_cons (ps_expr (pe_calE C1 throws_cx hr rfl (pa_cons (pv 0) (pa_cons (pv 1) pa_nil))))
      (pss_one (ps_if (pt_not (pt_chain op_le op_le pe_int (pv 2) (pv 0))) (pss_one (ps_raise O throws_cx rfl (pa_cons (pe_fstr (pj_str (pj_int (pv 0) (pj_str (pj_int (pv 2) pj_nil)))) (by decide +kernel)) pa_nil))) pss_nil)), ?_⟩
    refine ⟨_, rfl, _, rfl, links, a, os, rfl, hS, R, fun h8 => ?_, fun h8 c' hc => ?_⟩
    · rcases bad with ⟨z, _⟩ | ⟨_, hb, qe⟩
      · omega
      · refine ⟨_, rfl, _, _, rfl, rfl, _, rfl, ite2D (fun k1 => ?_) (fun k1 => ?_)⟩
        · refine ⟨_, rfl, _, _, rfl, rfl, _, rfl, ite2N (fun k2 => ?_) (fun k2 => absurd ⟨k1, k2⟩ hb)⟩
          exact ⟨⟨_, rfl, rfl, _, rfl, lg1, _, rfl, rfl, _, rfl, lg2, trivial⟩, fun y => ⟨by show 1 ≤ sizeLine; decide, qe c O.bound⟩⟩
        · exact ⟨_, rfl, iteT ⟨⟨_, rfl, rfl, _, rfl, lg1, _, rfl, rfl, _, rfl, lg2, trivial⟩, fun y => ⟨by show 1 ≤ sizeLine; decide, qe c O.bound⟩⟩⟩
    · rcases bad with ⟨_, qe⟩ | ⟨z, _⟩
      · exact qe c' hc
      · omega
theorem okR_check_amount (D : Df K mg "check_amount" ["links", "opened", "amount"] s_check_amount) (C1 : Cal P w K mg base (CXE P w) 3 "check_few_opened" ["links", "opened"] (spBadR K mg)) : Cal P w K mg base (CXE P w) 4 "check_amount" ["links", "opened", "amount"] (spBadR3 K mg) := by
  refine D.okE sc_check_amount (fun vs H Q E h => ?_) (fun f cdv A outer s H vs Q E hr h => ?_)
  · obtain ⟨l, a, os, v, rfl, _⟩ := h
    rfl
  · obtain ⟨links, a, os, v, rfl, rest⟩ := h
    exact ⟨_, pss_cons (ps_expr (pe_calE C1 throws_cx hr rfl (pa_cons (pv 0) (pa_cons (pv 1) pa_nil)))) pss_never, _, rfl, _, rfl, links, a, os, rfl, rest⟩
theorem sc_ways : FnScope ["links", "opened", "amount", "counts", "size"] ["links", "opened", "amount"] (defScope s_ways) := ⟨rfl, rfl, rfl, by decide +kernel, rfl, by decide +kernel, by decide +kernel⟩
theorem okB_ways (D : Df K mg "ways" ["links", "opened", "amount"] s_ways) (C1 : Cal P w K mg base (CXE P w) 4 "check_amount" ["links", "opened", "amount"] (spBadA K mg)) : Cal P w K mg base (CXE P w) 5 "ways" ["links", "opened", "amount"] (spBadA K mg) := by
  refine D.okE sc_ways (fun vs H Q E h => ?_) (fun f cdv A outer s H vs Q E hr h => ?_)
  · obtain ⟨l, a, os, m, rfl, _⟩ := h
    rfl
  · obtain ⟨links, a, os, amount, rfl, rest⟩ := h
    exact ⟨_, pss_cons (ps_expr (pe_calE C1 throws_cx hr rfl (pa_cons (pv 0) (pa_cons (pv 1) (pa_cons (pv 2) pa_nil))))) pss_never, _, rfl, _, rfl, _, rfl, links, a, os, amount, rfl, rest⟩
theorem okR_ways (D : Df K mg "ways" ["links", "opened", "amount"] s_ways) (C1 : Cal P w K mg base (CXE P w) 4 "check_amount" ["links", "opened", "amount"] (spBadR3 K mg)) : Cal P w K mg base (CXE P w) 5 "ways" ["links", "opened", "amount"] (spBadR3 K mg) := by
  refine D.okE sc_ways (fun vs H Q E h => ?_) (fun f cdv A outer s H vs Q E hr h => ?_)
  · obtain ⟨l, a, os, v, rfl, _⟩ := h
    rfl
  · obtain ⟨links, a, os, v, rfl, rest⟩ := h
    exact ⟨_, pss_cons (ps_expr (pe_calE C1 throws_cx hr rfl (pa_cons (pv 0) (pa_cons (pv 1) (pa_cons (pv 2) pa_nil))))) pss_never, _, rfl, _, rfl, _, rfl, links, a, os, v, rfl, rest⟩
/-! payment -/
def spPayment (K : PySem.W.Frag) : Sp := fun vs H Q _ => ∃ (links : Int) (a : Addr) (os : List Int) (amount : Int), vs = [.int links, .ref a, .int amount] ∧ SqL K H a (os.map V.int) ∧ RowOk links os 8 ∧ 0 ≤ amount ∧ amount ≤ links ∧
  ∀ (H' : Hp), Same H H' → (W (sizesP links os) amount = 0 → Q .non H') ∧
    (W (sizesP links os) amount ≠ 0 → ∀ (l : Addr) (ns : List Int), H l = none → H' l = some (.lst (ns.map V.int)) → Pay (sizesP links os) (sizesP links os).length ns amount → Q (.ref l) H')
theorem sc_payment : FnScope ["links", "opened", "amount", "found", "number", "size", "total"] ["links", "opened", "amount"] (defScope s_payment) := ⟨rfl, rfl, rfl, by decide +kernel, rfl, by decide +kernel, by decide +kernel⟩
theorem ok_payment (D : Df K mg "payment" ["links", "opened", "amount"] s_payment) (B : Bl mg) (C1 : Cal P w K mg base CX0 4 "check_amount" ["links", "opened", "amount"] (spAmount K)) (C2 : Cal P w K mg base CX0 4 "sizes" ["links", "opened"] (spSizes K)) :
    Cal P w K mg base CX0 5 "payment" ["links", "opened", "amount"] (spPayment K) := by
  have S := sc_payment
  refine D.ok S (fun vs H Q E h => ?_) (fun f cdv A outer s H vs Q E hr h => ?_)
  · obtain ⟨l, a, os, m, rfl, _⟩ := h
    rfl
  · obtain ⟨links, a, os, amount, rfl, hS, R, h0, h1, q⟩ := h
    have hu := hu_of hr
    refine ⟨_, pss_consD (ps_expr (pe_calf C1 hr rfl (pa_cons (pv 0) (pa_cons (pv 1) (pa_cons (pv 2) pa_nil)))))
      (pss_D (ps_setD (i := 3) S.nd rfl (Or.inl rfl) (pps_cons pe_int (pe_lst pa_nil) pps_nil) rfl rfl (by simp) (by decide))
      (pss_cons (ps_for PassesOwn.never rfl (pi_enum rfl B.n_enumerate (pa_cons (pe_calf C2 hr rfl (pa_cons (pv 0) (pa_cons (pv 1) pa_nil))) pa_nil))
          (pg_tup rfl (pgs_cons (pg_name (i := 4) S.nd rfl (Or.inl rfl)) (pgs_cons (pg_name (i := 5) S.nd rfl (Or.inl rfl)) pgs_nil)))
        (pss_one (ps_for PassesOwn.never rfl (pi_list (pe_callTy (call_listDict rfl) rfl B.n_list bb_list (pa_cons (pv 3) pa_nil))) (pg_name (i := 6) S.nd rfl (Or.inl rfl))
          (pss_one (ps_if (pt_cmp (pc_dnotin hu (pe_op op_add (pv 6) (pv 5)) (pv 3)))
            (pss_one (ps_dput hu (pv 3) (pe_op op_add (pv 6) (pv 5)) (pe_op op_cat (pe_dget hu (pv 3) (pv 6) (fun _ _ => rfl)) (pe_lst (pa_cons (pv 4) pa_nil))) rfl)) pss_nil)))))
      (pss_one (ps_ret (pe_dget1 hu (pv 3) (pv 2) ⟨rfl, rfl, rfl, rfl⟩))))), ?_⟩
    refine ⟨_, rfl, _, rfl, _, rfl, links, a, os, amount, rfl, hS, R, h0, h1, ?_⟩
    have big : ∀ n : Nat, n ≤ 2 ^ 21 → n < sizeLine := fun n h => by have e : sizeLine = 16777216 := PySem.sizeLine_eq; rw [e]; omega
    -- found = {0: []}
    intro p0 hp0
    refine ⟨Nat.zero_le _, fun l0 hl0 => ?_⟩
    have hlp : l0 ≠ p0 := fun e => by rw [e, upd_same] at hl0; cases hl0
    rw [upd_ne hlp] at hl0
    refine ⟨by rw [upd_ne hlp.symm, upd_same], [((Sum.inl 0 : Key), .ref l0)], rfl, (by show 1 ≤ 15; decide), ?_⟩
    obtain ⟨H1, eH1⟩ : ∃ H1, upd (upd (upd H p0 (.dK [])) l0 (.lst [])) p0 (.dK (mergeK [] [((Sum.inl 0 : Key), V.ref l0)])) = H1 := ⟨_, rfl⟩
    have hd1 : H1 p0 = some (.dK [((Sum.inl 0 : Key), V.ref l0)]) := by rw [← eH1]; exact upd_same
    have hl1 : H1 l0 = some (.lst []) := by rw [← eH1, upd_ne hlp, upd_same]
    have s1 : Same H H1 := fun b u e => by rw [← eH1, upd_ne (ne_of_none e hp0), upd_ne (ne_of_none e hl0), upd_ne (ne_of_none e hp0)]; exact e
    rw [eH1]
    clear eH1
    -- for number, size in enumerate(sizes(links, opened))
    refine ⟨_, rfl, _, rfl, links, a, os, rfl, s1.seq hS, R.mono (by decide), fun l H2 s2 hl hL => ?_⟩
    refine ⟨l, _, rfl, hL, ?_⟩
    have hlen := sizes_len (links := links) (os := os)
    have h8 := R.len
    generalize sizesP links os = xs at *
    have hl0p : p0 ≠ l := ne_of_none hd1 hl
    refine for_enum (a := l) (xs := xs.map V.int) (fun i σ H' => ∃ (kvs : List (Key × V)) (v4 v5 v6 : Option V), σ = [some (.int links), some (.ref a), some (.int amount), some (.ref p0), v4, v5, v6] ∧ Same H H' ∧ H' l = some (.lst (xs.map V.int)) ∧
      H' p0 = some (.dK kvs) ∧ PayD H H' kvs xs i (fun t => W (xs.take i) t ≠ 0) ∧ kvs.length ≤ 2 ^ i) ?_ ?_ ?_ ?_
    · exact ⟨_, none, none, none, rfl, s1.trans s2, hL, s2 _ _ hd1, payd_start hl0 (s2 _ _ hl1), Nat.le_refl 1⟩
    · rintro i σ H' _ ⟨kvs, v4, v5, v6, rfl, _, hl2, _⟩
      exact hl2
    · rintro i x p σ H3 hi ⟨kvs, v4, v5, v6, rfl, s3, hl3, hd3, PD, hk⟩ hp
      obtain ⟨size, rfl, hz⟩ := map_get hi
      have hi17 : i < 17 := by have := (List.getElem?_eq_some_iff.mp hz).1; omega
      have hk17 : kvs.length ≤ 2 ^ 16 := Nat.le_trans hk (Nat.pow_le_pow_right (by decide) (by omega))
      have sn := same_new hp (.tup [V.int (i : Int), V.int size])
      refine ⟨p, _, rfl, SqT.of upd_same, rfl, _, _, rfl, _, _, rfl, rfl, ?_⟩
      -- for total in list(found)
      refine ⟨_, rfl, p0, kvs, rfl, .inl (sn _ _ hd3), fun k hkk => ?_⟩
      have sk := sn.trans (same_new hkk (.lst (kvs.map fun q => kV q.1)))
      have hkp : p0 ≠ k := ne_of_none (sn _ _ hd3) hkk
      refine ⟨k, rfl, ⟨_, SqL.of upd_same⟩, ?_⟩
      refine for_list (K := K) (a := k) (xs := kvs.map fun q => kV q.1) (fun j σ H' => ∃ (mvs : List (Key × V)) (v6 : Option V), σ = [some (.int links), some (.ref a), some (.int amount), some (.ref p0), some (.int (i : Int)), some (.int size), v6] ∧ Same H H' ∧ H' l = some (.lst (xs.map V.int)) ∧
        H' k = some (.lst (kvs.map fun q => kV q.1)) ∧ H' p0 = some (.dK mvs) ∧ PayD H H' mvs xs (i + 1) (Sj kvs (fun t => W (xs.take i) t ≠ 0) size j) ∧ PayD H H' kvs xs i (fun t => W (xs.take i) t ≠ 0) ∧ (∀ q ∈ kvs, valV mvs q.1 = some q.2) ∧ mvs.length ≤ kvs.length + j) ?_ ?_ ?_ ?_
      · have fr : ∀ b zs, H3 b = some (.lst zs) → (upd (upd H3 p (.tup [V.int (i : Int), V.int size])) k (.lst (kvs.map fun q => kV q.1))) b = some (.lst zs) := fun b zs e => sk _ _ e
        exact ⟨kvs, _, rfl, s3.trans sk, sk _ _ hl3, upd_same, sk _ _ hd3, ((PD.frame fr).mono (Nat.le_succ _)).congr (sj_zero size), PD.frame fr, fun q hq => valV_of_mem PD.nd hq, Nat.le_refl _⟩
      · rintro j σ H' _ ⟨mvs, v6, rfl, _, _, hk4, _⟩
        exact SqL.of hk4
      · rintro j x σ H4 hj ⟨mvs, v6, rfl, s4, hl4, hk4, hd4, M, PD4, old, hml⟩
        rw [List.getElem?_map] at hj
        obtain ⟨q0, hq0, ex⟩ := Option.map_eq_some_iff.mp hj
        have hjl : j < kvs.length := (List.getElem?_eq_some_iff.mp hq0).1
        have hqm := List.mem_of_getElem? hq0
        obtain ⟨tot, lt, ns, eq0, hlt0, hlt4, hpay⟩ := PD4.ent q0 hqm
        subst eq0
        subst ex
        have g1 : DGet H4 p0 (.int (tot + size)) (valV mvs (Sum.inl (tot + size) : Key)) := DGet.k (k := (Sum.inl (tot + size) : Key)) hd4
        have step := fun t => sj_step (S := fun t => W (xs.take i) t ≠ 0) (size := size) hq0 t
        refine ⟨_, rfl, _, rfl, _, _, rfl, rfl, _, rfl, p0, _, rfl, g1, _, rfl, ?_⟩
        have hrest : (valV mvs (Sum.inl (tot + size) : Key)).isSome = true ∨ (valV mvs (Sum.inl (tot + size) : Key)).isSome = false := by cases (valV mvs (Sum.inl (tot + size) : Key)).isSome <;> simp
        rcases hrest with hb | hb
        · rw [hb]
          refine iteF ⟨mvs, _, rfl, s4, hl4, hk4, hd4, M.congr fun t => ?_, PD4, old, by omega⟩
          rw [step]
          constructor
          · exact .inl
          · rintro (h | rfl)
            · exact h
            · exact (M.isSome _).mp hb
        · rw [hb]
          have hnot : ¬ Sj kvs (fun t => W (xs.take i) t ≠ 0) size j (tot + size) := fun z => by rw [(M.isSome _).mpr z] at hb; cases hb
          refine iteT ?_
          have g2 : DGet H4 p0 (.int tot) (some (.ref lt)) := by
            have := DGet.k (k := (Sum.inl tot : Key)) hd4
            rw [old _ hqm] at this
            exact this
          refine ⟨_, rfl, _, rfl, p0, _, rfl, g2, _, rfl, (by show 1 ≤ sizeLine; exact Nat.le_of_lt (big _ (by decide))), fun c hc => ?_⟩
          have sc := same_new hc (.lst [V.int (i : Int)])
          refine ⟨lt, c, _, _, rfl, rfl, sc _ _ hlt4, upd_same, ?_, fun r hr' => ?_⟩
          · have := hpay.len
            rw [List.length_map]
            show ns.length + 1 ≤ sizeLine
            exact Nat.le_of_lt (big _ (by omega))
          have hr4 : H4 r = none := sc.free hr'
          have e1 : ns.map V.int ++ [V.int (i : Int)] = (ns ++ [(i : Int)]).map V.int := by rw [List.map_append]; rfl
          rw [e1]
          have sr := sc.trans (same_new hr' (.lst ((ns ++ [(i : Int)]).map V.int)))
          have M2 := (M.frame (fun b zs e => sc _ _ e)).put (d := p0) (p := r) (s4.free hr4) hr' (sc _ _ hd4) hnot (hpay.step hz)
          refine ⟨_, rfl, _, rfl, _, rfl, _, _, rfl, rfl, p0, _, rfl, DPut.k (k := (Sum.inl (tot + size) : Key)) (sr _ _ hd4) (big _ (by omega)), ?_⟩
          refine ⟨_, _, rfl, fun b u e => ?_, ?_, ?_, upd_same, M2.congr fun t => (step t).symm, PD4.frame fun b zs e => ?_, fun q hq => ?_, ?_⟩
          · rw [upd_ne (ne_of_none e hp0)]
            exact sr _ _ (s4 b u e)
          · rw [upd_ne hl0p.symm]
            exact sr _ _ hl4
          · rw [upd_ne hkp.symm]
            exact sr _ _ hk4
          · rw [upd_ne (fun z => by rw [z, hd4] at e; cases e)]
            exact sr _ _ e
          · rw [valV_put, if_neg (fun z => by
              have := old q hq
              rw [z] at this
              rw [this] at hb
              cases hb)]
            exact old q hq
          · refine Nat.le_trans (length_putK _ _ _) ?_
            omega
      · rintro σ H4 ⟨mvs, v6, rfl, s4, hl4, hk4, hd4, M, PD4, old, hml⟩
        rw [List.length_map] at M hml
        refine ⟨mvs, _, _, _, rfl, s4, hl4, hd4, M.congr fun t => ?_, ?_⟩
        · rw [sj_all PD4]
          have e : xs.take (i + 1) = xs.take i ++ [size] := by rw [List.take_add_one, hz]; rfl
          rw [e]
          exact ways_step
        · rw [Nat.pow_succ]
          omega
    · rintro σ H3 ⟨kvs, v4, v5, v6, rfl, s3, hl3, hd3, PD, hk⟩
      rw [List.length_map] at PD
      rw [List.take_length] at PD
      have g1 : DGet H3 p0 (.int amount) (valV kvs (Sum.inl amount : Key)) := DGet.k (k := (Sum.inl amount : Key)) hd3
      refine ⟨_, rfl, p0, rfl, .inl ⟨_, .inl hd3⟩, _, rfl, _, g1, ?_⟩
      by_cases hW : W xs amount = 0
      · rw [PD.none_of (fun z => z hW)]
        exact (q H3 s3).1 hW
      · obtain ⟨lr, ns, e, h1, h2, h3⟩ := PD.get hW
        rw [e]
        exact (q H3 s3).2 hW lr ns h1 h2 h3
theorem okB_payment (D : Df K mg "payment" ["links", "opened", "amount"] s_payment) (C1 : Cal P w K mg base (CXE P w) 4 "check_amount" ["links", "opened", "amount"] (spBadA K mg)) : Cal P w K mg base (CXE P w) 5 "payment" ["links", "opened", "amount"] (spBadA K mg) := by
  refine D.okE sc_payment (fun vs H Q E h => ?_) (fun f cdv A outer s H vs Q E hr h => ?_)
  · obtain ⟨l, a, os, m, rfl, _⟩ := h
    rfl
  · obtain ⟨links, a, os, amount, rfl, rest⟩ := h
    exact ⟨_, pss_cons (ps_expr (pe_calE C1 throws_cx hr rfl (pa_cons (pv 0) (pa_cons (pv 1) (pa_cons (pv 2) pa_nil))))) pss_never, _, rfl, _, rfl, _, rfl, links, a, os, amount, rfl, rest⟩
theorem okR_payment (D : Df K mg "payment" ["links", "opened", "amount"] s_payment) (C1 : Cal P w K mg base (CXE P w) 4 "check_amount" ["links", "opened", "amount"] (spBadR3 K mg)) : Cal P w K mg base (CXE P w) 5 "payment" ["links", "opened", "amount"] (spBadR3 K mg) := by
  refine D.okE sc_payment (fun vs H Q E h => ?_) (fun f cdv A outer s H vs Q E hr h => ?_)
  · obtain ⟨l, a, os, v, rfl, _⟩ := h
    rfl
  · obtain ⟨links, a, os, v, rfl, rest⟩ := h
    exact ⟨_, pss_cons (ps_expr (pe_calE C1 throws_cx hr rfl (pa_cons (pv 0) (pa_cons (pv 1) (pa_cons (pv 2) pa_nil))))) pss_never, _, rfl, _, rfl, _, rfl, links, a, os, v, rfl, rest⟩
theorem sc_payable : FnScope ["links", "opened", "amount"] ["links", "opened", "amount"] (defScope s_payable) := ⟨rfl, rfl, rfl, by decide +kernel, rfl, by decide +kernel, by decide +kernel⟩
theorem okB_payable (D : Df K mg "payable" ["links", "opened", "amount"] s_payable) (C1 : Cal P w K mg base (CXE P w) 5 "ways" ["links", "opened", "amount"] (spBadA K mg)) : Cal P w K mg base (CXE P w) 6 "payable" ["links", "opened", "amount"] (spBadA K mg) := by
  refine D.okE sc_payable (fun vs H Q E h => ?_) (fun f cdv A outer s H vs Q E hr h => ?_)
  · obtain ⟨l, a, os, m, rfl, _⟩ := h
    rfl
  · obtain ⟨links, a, os, amount, rfl, hS, R, h0, h1, bad⟩ := h
    refine ⟨_, pss_one (ps_ret (pe_cmpR op_gt (pe_calE C1 throws_cx hr rfl (pa_cons (pv 0) (pa_cons (pv 1) (pa_cons (pv 2) pa_nil)))) pe_int (nomark _))), ?_⟩
    exact ⟨_, rfl, _, rfl, _, rfl, links, a, os, amount, rfl, hS, R, h0, h1, bad⟩
theorem okR_payable (D : Df K mg "payable" ["links", "opened", "amount"] s_payable) (C1 : Cal P w K mg base (CXE P w) 5 "ways" ["links", "opened", "amount"] (spBadR3 K mg)) : Cal P w K mg base (CXE P w) 6 "payable" ["links", "opened", "amount"] (spBadR3 K mg) := by
  refine D.okE sc_payable (fun vs H Q E h => ?_) (fun f cdv A outer s H vs Q E hr h => ?_)
  · obtain ⟨l, a, os, v, rfl, _⟩ := h
    rfl
  · obtain ⟨links, a, os, v, rfl, hS, l0, l1, bad⟩ := h
    refine ⟨_, pss_one (ps_ret (pe_cmpR op_gt (pe_calE C1 throws_cx hr rfl (pa_cons (pv 0) (pa_cons (pv 1) (pa_cons (pv 2) pa_nil)))) pe_int (nomark _))), ?_⟩
    exact ⟨_, rfl, _, rfl, _, rfl, links, a, os, v, rfl, hS, l0, l1, bad⟩
/-! held_amount -/
def sumAt (xs ns : List Int) : Int := (ns.map fun n => xs.getD n.toNat 0).sum
def spHeld (K : PySem.W.Frag) (mg : Str → Option Value) : Sp := fun vs H Q E => ∃ (links : Int) (a h : Addr) (os ns : List Int), vs = [.int links, .ref a, .ref h] ∧ SqL K H a (os.map V.int) ∧ SqL K H h (ns.map V.int) ∧ RowOk links os 100 ∧ ns.length ≤ 500 ∧
  (risesB (sizesP links os).length (-1) ns = true → ∀ H', Same H H' → Q (.int (sumAt (sizesP links os) ns)) H') ∧ (risesB (sizesP links os).length (-1) ns = false → ∀ c, mg "NoAmount" = some (.ref c) → ∀ H', Same H H' → E (.ref c) none H')
theorem sc_held_amount : FnScope ["links", "opened", "held", "told", "count"] ["links", "opened", "held"] (defScope s_held_amount) := ⟨rfl, rfl, rfl, by decide +kernel, rfl, by decide +kernel, by decide +kernel⟩
theorem okX_held_amount (D : Df K mg "held_amount" ["links", "opened", "held"] s_held_amount) (B : Bl mg) {c : Addr} (O : XC K mg "NoAmount" c) (C1 : Cal P w K mg base CX0 4 "sizes" ["links", "opened"] (spSizes K)) (C2 : Cal P w K mg base CX0 1 "rises_below" ["numbers", "end"] (spRises K)) :
    Cal P w K mg base (CXE P w) 5 "held_amount" ["links", "opened", "held"] (spHeld K mg) := by
  have S := sc_held_amount
  refine D.okE S (fun vs H Q E h => ?_) (fun f cdv A outer s H vs Q E hr h => ?_)
  · obtain ⟨l, a, h, os, ns, rfl, _⟩ := h
    rfl
  · obtain ⟨links, a, h, os, ns, rfl, hS, hN, R, hnl, q, qe⟩ := h
    have hr1 : Room 1 _ := hr.mono (by decide)
    refine ⟨_, pss_cons (ps_set (i := 3) S.nd rfl (Or.inr rfl) (pe_calf C1 hr rfl (pa_cons (pv 0) (pa_cons (pv 1) pa_nil))))
      (pss_cons (ps_set (i := 4) S.nd rfl (Or.inl rfl) (pe_callB call_len_seq rfl B.n_len bb_len (pa_cons (pv 3) pa_nil)))
      (pss_cons (ps_if (pt_not (pt_val (pe_calf C2 hr1 rfl (pa_cons (pv 2) (pa_cons (pv 4) pa_nil))))) (pss_one (ps_raise O throws_cx rfl (pa_cons (pe_fstr (pj_str (pj_int (pv 4) pj_nil)) (by decide +kernel)) pa_nil))) pss_nil)
      (pss_one (ps_ret (pe_callB (call_sum rfl) rfl B.n_sum bb_sum (pa_cons (pe_lcomp (N := ["number", "told"]) (cl := [("told", s.heap.objs.size + 1)])
        (BlkS.free (sc := defScope s_held_amount) (ks := ["told"]) rfl rfl rfl (by decide +kernel) (by decide +kernel) (fun p hp => by rw [List.mem_singleton.mp hp]; rfl) rfl (by decide +kernel)) rfl
        (pi_list (pv 2)) (fun _ _ _ _ _ => pg_name (i := 0) (nd_two (by decide +kernel)) rfl (Or.inl rfl)) (fun _ _ _ _ _ => pts_nil) (fun _ _ _ _ _ => pe_ix (ix_listK K rfl) (pv 1) (pv 0) (fun _ _ => rfl))) pa_nil)))))), ?_⟩
    have hcl : ((List.map V.int (sizesP links os)).length : Int) ≤ 201 := by
      rw [List.length_map]
      have := sizes_len (links := links) (os := os)
      have := R.len
      omega
    have hcl2 := hcl
    rw [List.length_map] at hcl2
    refine ⟨_, rfl, _, rfl, links, a, os, rfl, hS, R, fun p H1 s1 hp hp1 => ?_⟩
    refine ⟨_, rfl, p, _, rfl, .inl (SqL.of hp1), ?_⟩
    refine ⟨_, rfl, _, rfl, h, ns, _, rfl, s1.seq hN, _, rfl, ?_⟩
    cases hb : risesB (sizesP links os).length (-1) ns with
    | false =>
      rw [List.length_map, hb]
      exact iteT ⟨⟨_, rfl, rfl, _, rfl, log_small (by omega) (by omega), trivial⟩, fun y => ⟨by show 1 ≤ sizeLine; decide, qe hb c O.bound H1 s1⟩⟩
    | true =>
      rw [List.length_map, hb]
      obtain ⟨b1, b2⟩ := of_risesB hb
      refine iteF ?_
      refine ⟨_, rfl, h, rfl, ⟨_, s1.seq hN⟩, fun Dl hDl => ⟨[none, some (.ref p)], .skip (.take (i := 3) .nil rfl rfl (Or.inr (Or.inl rfl)) rfl (Or.inl rfl) (Or.inl rfl)), ?_⟩⟩
      refine lc_list (K := K) (a := h) (D := Dl) (xs := ns.map V.int) (fun i σ H' => ∃ v : Option V, σ = [v, some (.ref p)] ∧ Same H1 H' ∧ H' Dl = some (.lst (((ns.take i).map fun n => (sizesP links os).getD n.toNat 0).map V.int))) ?_ ?_ ?_ ?_
      · exact ⟨none, rfl, same_new hDl _, upd_same⟩
      · rintro i σ H' _ ⟨v, rfl, sm, hd⟩
        exact sm.seq (s1.seq hN)
      · rintro i x σ H' hi ⟨v, rfl, sm, hd⟩
        obtain ⟨z, rfl, hz⟩ := map_get hi
        have hzm := b2 z (List.mem_of_getElem? hz)
        have hk : z.toNat < (sizesP links os).length := by omega
        have ez : ((z.toNat : Nat) : Int) = z := by omega
        have q1 : atI ((sizesP links os).map V.int) z = some (.int ((sizesP links os).getD z.toNat 0)) := by
          rw [← ez, Int.toNat_natCast]
          refine atI_nat ?_
          rw [List.getElem?_map, List.getElem?_eq_getElem hk, List.getD_eq_getElem?_getD, List.getElem?_eq_getElem hk]
          rfl
        refine ⟨_, rfl, _, rfl, p, _, _, _, rfl, rfl, SqL.of (sm _ _ hp1), q1, _, hd, small1000 (by simp only [List.length_map, List.length_take]; omega), some (.int z), rfl, fun b u e => ?_, ?_⟩
        · rw [upd_ne (ne_of_none e hDl)]
          exact sm b u e
        · rw [upd_same, List.take_add_one, hz, List.map_append, List.map_append]
          rfl
      · rintro σ H' ⟨v, rfl, sm, hd⟩
        rw [List.length_map, List.take_length] at hd
        exact ⟨Dl, _, rfl, SqL.of hd, q hb H' (s1.trans sm)⟩
/-! payment_on_the_day -/
def spDay (K : PySem.W.Frag) (mg : Str → Option Value) : Sp := fun vs H Q E => ∃ (links : Int) (a : Addr) (os : List Int) (amount : Int), vs = [.int links, .ref a, .int amount] ∧ SqL K H a (os.map V.int) ∧ RowOk links os 8 ∧ 0 ≤ amount ∧ amount ≤ 10 ^ 40 ∧
  ((links < amount ∨ W (sizesP links os) amount = 0) → ∀ c, mg "NoPayment" = some (.ref c) → ∀ H', Same H H' → E (.ref c) none H') ∧
  (amount ≤ links → W (sizesP links os) amount ≠ 0 → ∀ (l : Addr) (ms : List Int) (H' : Hp), Same H H' → H l = none → H' l = some (.lst (ms.map V.int)) → Pay (sizesP links os) (sizesP links os).length ms amount → Q (.ref l) H')
theorem sc_payment_on_the_day : FnScope ["links", "opened", "amount", "found"] ["links", "opened", "amount"] (defScope s_payment_on_the_day) := ⟨rfl, rfl, rfl, by decide +kernel, rfl, by decide +kernel, by decide +kernel⟩
theorem okX_payment_on_the_day (D : Df K mg "payment_on_the_day" ["links", "opened", "amount"] s_payment_on_the_day) {c : Addr} (O : XC K mg "NoPayment" c) (C1 : Cal P w K mg base CX0 5 "payment" ["links", "opened", "amount"] (spPayment K)) :
    Cal P w K mg base (CXE P w) 6 "payment_on_the_day" ["links", "opened", "amount"] (spDay K mg) := by
  have S := sc_payment_on_the_day
  refine D.okE S (fun vs H Q E h => ?_) (fun f cdv A outer s H vs Q E hr h => ?_)
  · obtain ⟨l, a, os, m, rfl, _⟩ := h
    rfl
  · obtain ⟨links, a, os, amount, rfl, hS, R, h0, h1, qe, q⟩ := h
    have hlo := R.lo
    have hhi := R.hi
    have lg1 : links.natAbs.log2 < 1920 := log_small (by omega) (by omega)
    have lg2 : amount.natAbs.log2 < 1920 := log_small (by omega) h1
    refine ⟨_, pss_cons (ps_set (i := 3) S.nd rfl (Or.inl rfl) (pe_ifExp (pt_cmpR op_le (pv 2) (pv 0) (nomark _)) (pe_calf C1 hr rfl (pa_cons (pv 0) (pa_cons (pv 1) (pa_cons (pv 2) pa_nil)))) pe_non))
      (pss_cons (ps_if (pt_cmpR op_isN (pv 3) pe_non (nomark _)) (pss_one (ps_raise O throws_cx rfl (pa_cons (pe_fstr (pj_int (pv 2) (pj_str (pj_int (pv 0) (pj_str pj_nil)))) (by decide +kernel)) pa_nil))) pss_nil)
      (pss_one (ps_ret (pv 3)))), ?_⟩
    refine ⟨_, rfl, _, rfl, _, _, rfl, rfl, _, rfl, ite2D (fun k => ?_) (fun k => ?_)⟩
    · refine ⟨_, rfl, _, rfl, _, rfl, links, a, os, amount, rfl, hS, R, h0, k, fun H' s' => ⟨fun hW => ?_, fun hW l ms hl hL hpay => ?_⟩⟩
      · exact ⟨_, rfl, rfl, _, rfl, iteD rfl ⟨⟨_, rfl, rfl, _, rfl, lg2, _, rfl, rfl, _, rfl, lg1, trivial⟩, fun y => ⟨by show 1 ≤ sizeLine; decide, qe (.inr hW) c O.bound H' s'⟩⟩⟩
      · exact ⟨_, rfl, rfl, _, rfl, iteDn (by intro z; cases z) ⟨_, rfl, q k hW l ms H' s' hl hL hpay⟩⟩
    · exact ⟨_, rfl, rfl, _, rfl, iteD rfl ⟨⟨_, rfl, rfl, _, rfl, lg2, _, rfl, rfl, _, rfl, lg1, trivial⟩, fun y => ⟨by show 1 ≤ sizeLine; decide, qe (.inl (by omega)) c O.bound H fun _ _ z => z⟩⟩⟩
/-! step -/
def rNI (K : PySem.W.Frag) : R2 := fun x y H Q => ∃ (z : Int) (p : Addr) (os : List Int), x = .int z ∧ y = .ref p ∧ SqL K H p (os.map V.int) ∧ Q (.bl (!decide (z ∈ os))) H
theorem op_notIn_intsK {X : Cx} (K : PySem.W.Frag) (h : X.K = K) : OpR X (compareOp .NotIn) (rNI K) := h ▸ op_notIn_ints
theorem getD_in {xs : List Int} {m : Int} (h : ∀ x ∈ xs, 0 < x ∧ x ≤ m) (hm : 0 ≤ m) (i : Nat) : 0 ≤ xs.getD i 0 ∧ xs.getD i 0 ≤ m := by
  rw [List.getD_eq_getElem?_getD]
  cases e : xs[i]? with
  | none => exact ⟨Int.le_refl 0, hm⟩
  | some x =>
    have := h x (List.mem_of_getElem? e)
    show 0 ≤ x ∧ x ≤ m
    omega
theorem sumAt_in {xs : List Int} {m : Int} (h : ∀ x ∈ xs, 0 < x ∧ x ≤ m) (hm : 0 ≤ m) : ∀ ns : List Int, 0 ≤ sumAt xs ns ∧ sumAt xs ns ≤ ns.length * m
  | [] => by simp [sumAt]
  | n :: r => by
    have ih := sumAt_in h hm r
    have g := getD_in h hm n.toNat
    unfold sumAt at *
    rw [List.map_cons, List.sum_cons, List.length_cons, Int.natCast_succ, Int.add_mul]
    omega
theorem mem_le_sum : ∀ {xs : List Int}, (∀ x ∈ xs, 0 < x) → ∀ x ∈ xs, x ≤ xs.sum
  | [], _, x, h => by simp at h
  | y :: r, hp, x, h => by
    have e := mem_le_sum (xs := r) fun z hz => hp z (List.mem_cons_of_mem _ hz)
    have pos : ∀ {zs : List Int}, (∀ z ∈ zs, 0 < z) → 0 ≤ zs.sum := fun {zs} hz => by
      induction zs with
      | nil => exact Int.le_refl 0
      | cons a t ih =>
        rw [List.sum_cons]
        have := hz a List.mem_cons_self
        have := ih fun z hz' => hz z (List.mem_cons_of_mem _ hz')
        omega
    have p2 := pos fun z hz => hp z (List.mem_cons_of_mem _ hz)
    rw [List.sum_cons]
    rcases List.mem_cons.mp h with rfl | h
    · omega
    · have := e x h
      have := hp y List.mem_cons_self
      omega
theorem sumAt_row {links : Int} {os : List Int} {m : Nat} (R : RowOk links os m) {ns : List Int} (hl : ns.length ≤ 500) : 0 ≤ sumAt (sizesP links os) ns ∧ sumAt (sizesP links os) ns ≤ 500 * 10 ^ 30 := by
  obtain ⟨e, hp⟩ := sizes_facts R
  have lo := R.lo
  have hi := R.hi
  have h := sumAt_in (xs := sizesP links os) (m := 10 ^ 30) (fun x hx => ⟨hp x hx, by have := mem_le_sum hp x hx; omega⟩) (by decide) ns
  refine ⟨h.1, Int.le_trans h.2 (Int.mul_le_mul_of_nonneg_right (by omega) (by decide))⟩
def outs (ms ns : List Int) : List Int := ms.filter fun n => !decide (n ∈ ns)
def spStep (K : PySem.W.Frag) (mg : Str → Option Value) : Sp := fun vs H Q E => ∃ (links : Int) (a h : Addr) (os ns : List Int), vs = [.int links, .ref a, .ref h] ∧ SqL K H a (os.map V.int) ∧ SqL K H h (ns.map V.int) ∧ RowOk links os 100 ∧ ns.length ≤ 500 ∧
  (8 < os.length → ∀ c, mg "TooMany" = some (.ref c) → E (.ref c) none H) ∧
  (os.length ≤ 8 → risesB (sizesP links os).length (-1) ns = false → ∀ c, mg "NoAmount" = some (.ref c) → ∀ H', Same H H' → E (.ref c) none H') ∧
  (os.length ≤ 8 → risesB (sizesP links os).length (-1) ns = true → (links < sumAt (sizesP links os) ns + 1 ∨ W (sizesP links os) (sumAt (sizesP links os) ns + 1) = 0) → ∀ c, mg "NoPayment" = some (.ref c) → ∀ H', Same H H' → E (.ref c) none H') ∧
  (os.length ≤ 8 → risesB (sizesP links os).length (-1) ns = true → sumAt (sizesP links os) ns + 1 ≤ links → W (sizesP links os) (sumAt (sizesP links os) ns + 1) ≠ 0 → ∀ (p g t : Addr) (ms : List Int) (H' : Hp), Same H H' → H' p = some (.tup [.ref g, .ref t]) →
    H' g = some (.lst ((outs ms ns).map V.int)) → H' t = some (.lst ((outs ns ms).map V.int)) → H g = none → H t = none → g ≠ t → Pay (sizesP links os) (sizesP links os).length ms (sumAt (sizesP links os) ns + 1) → Q (.ref p) H')
theorem sc_step : FnScope ["links", "opened", "held", "wanted", "given", "taken_back"] ["links", "opened", "held"] (defScope s_step) := ⟨rfl, rfl, rfl, by decide +kernel, rfl, by decide +kernel, by decide +kernel⟩
theorem lc_outs {K : PySem.W.Frag} {H0 : Hp} {p b D : Addr} {ms ns : List Int} {Pq : Hp → Prop} (hp : H0 p = some (.lst (ms.map V.int)) ∨ SqL K H0 p (ms.map V.int)) (hb : SqL K H0 b (ns.map V.int)) (hD : H0 D = none) (hl : ms.length ≤ 900)
    (q : ∀ H2, Same H0 H2 → H2 D = some (.lst ((outs ms ns).map V.int)) → Pq H2) :
    ∃ W : Nat → Nat → St → Hp → Prop, (∃ m, W 0 m [none, some (.ref b)] (upd H0 D (.lst []))) ∧ ∀ i m σ' H', W i m σ' H' → ((Itl K p).stop i H' ∧ Pq H') ∨ ((Itl K p).go i H' ∧ ∃ N : St → Hp → Prop, (∀ σ2 H2, N σ2 H2 → ∃ m', m' < m ∧ W (i + 1) m' σ2 H2) ∧
      ∀ x H2, (Itl K p).yld i H' x H2 → gName 0 x σ' H2 fun σ3 H3 => tTest (tOp (rNI K) (tVar 0) (tVar 1)) σ3 H3 fun b H4 => if b = true then (tVar 0) σ3 H4 fun y H5 => ∃ xs, H5 D = some (.lst xs) ∧ xs.length < sizeLine ∧ N σ3 (upd H5 D (.lst (xs ++ [y]))) else N σ3 H4) := by
  have hS : SqL K H0 p (ms.map V.int) := hp.elim SqL.of id
  refine lc_list (K := K) (a := p) (D := D) (xs := ms.map V.int) (Pq := Pq) (fun i σ H' => (∃ v, σ = [v, some (.ref b)]) ∧ Same H0 H' ∧ H' D = some (.lst ((outs (ms.take i) ns).map V.int))) ?_ ?_ ?_ ?_
  · exact ⟨⟨none, rfl⟩, same_new hD _, upd_same⟩
  · rintro i σ H' _ ⟨⟨v, rfl⟩, sm, hd⟩
    exact sm.seq hS
  · rintro i x σ H' hi ⟨⟨v, rfl⟩, sm, hd⟩
    obtain ⟨z, rfl, hz⟩ := map_get hi
    have ef : outs (ms.take (i + 1)) ns = outs (ms.take i) ns ++ (if z ∈ ns then [] else [z]) := by
      unfold outs
      rw [List.take_add_one, hz, List.filter_append]
      congr 1
      by_cases c : z ∈ ns
      · rw [if_pos c]
        simp [c]
      · rw [if_neg c]
        simp [c]
    refine ⟨_, rfl, _, rfl, z, b, ns, rfl, rfl, sm.seq hb, _, rfl, ?_⟩
    by_cases c : z ∈ ns
    · rw [decide_eq_true c]
      refine iteF ⟨⟨_, rfl⟩, sm, ?_⟩
      rw [ef, if_pos c, List.append_nil]
      exact hd
    · rw [decide_eq_false c]
      refine iteT ⟨_, rfl, _, hd, small1000 ?_, ⟨_, rfl⟩, fun b u e => ?_, ?_⟩
      · rw [List.length_map]
        have h1 := List.length_filter_le (fun n => !decide (n ∈ ns)) (ms.take i)
        have h2 : (ms.take i).length ≤ ms.length := by rw [List.length_take]; omega
        show (List.filter (fun n => !decide (n ∈ ns)) (ms.take i)).length ≤ _
        omega
      · rw [upd_ne (ne_of_none e hD)]
        exact sm b u e
      · rw [upd_same, ef, if_neg c, List.map_append]
        rfl
  · rintro σ H' ⟨⟨v, rfl⟩, sm, hd⟩
    rw [List.length_map, List.take_length] at hd
    exact q H' sm hd
theorem okX_step (D : Df K mg "step" ["links", "opened", "held"] s_step) (C1 : Cal P w K mg base (CXE P w) 3 "check_few_opened" ["links", "opened"] (spFewX K mg)) (C2 : Cal P w K mg base (CXE P w) 6 "payment_on_the_day" ["links", "opened", "amount"] (spDay K mg))
    (C3 : Cal P w K mg base (CXE P w) 5 "held_amount" ["links", "opened", "held"] (spHeld K mg)) : Cal P w K mg base (CXE P w) 7 "step" ["links", "opened", "held"] (spStep K mg) := by
  have S := sc_step
  refine D.okE S (fun vs H Q E h => ?_) (fun f cdv A outer s H vs Q E hr h => ?_)
  · obtain ⟨l, a, h, os, ns, rfl, _⟩ := h
    rfl
  · obtain ⟨links, a, h, os, ns, rfl, hS, hN, R, hnl, q2, q3, q4, q⟩ := h
    have hr5 : Room 5 _ := hr.mono (by decide)
    have hr3 : Room 3 _ := hr.mono (by decide)
    refine ⟨_, pss_cons (ps_expr (pe_calE C1 throws_cx hr3 rfl (pa_cons (pv 0) (pa_cons (pv 1) pa_nil))))
      (pss_cons (ps_set (i := 3) S.nd rfl (Or.inr rfl) (pe_calE C2 throws_cx hr rfl (pa_cons (pv 0) (pa_cons (pv 1) (pa_cons (pe_op op_add (pe_calE C3 throws_cx hr5 rfl (pa_cons (pv 0) (pa_cons (pv 1) (pa_cons (pv 2) pa_nil)))) pe_int) pa_nil)))))
      (pss_cons (ps_setLC (i := 4) (N := ["number", "held"]) (cl := [("held", s.heap.objs.size + 1)]) S.nd rfl rfl rfl
        (BlkS.free (sc := defScope s_step) (ks := ["held"]) rfl rfl rfl (by decide +kernel) (by decide +kernel) (fun p hp => by rw [List.mem_singleton.mp hp]; rfl) rfl (by decide +kernel)) rfl (pi_list (pv 3))
        (fun _ _ _ _ _ => pg_name (i := 0) (nd_two (by decide +kernel)) rfl (Or.inl rfl)) (fun _ _ _ _ _ => pts_one (pt_cmpR (op_notIn_intsK K rfl) (pv 0) (pv 1) (by with_unfolding_all rfl))) (fun _ _ _ _ _ => pv 0))
      (pss_cons (ps_setLC (i := 5) (N := ["number", "wanted"]) (cl := [("wanted", s.heap.objs.size + 1 + 1)]) S.nd rfl rfl rfl
        (BlkS.free (sc := defScope s_step) (ks := ["wanted"]) rfl rfl rfl (by decide +kernel) (by decide +kernel) (fun p hp => by rw [List.mem_singleton.mp hp]; rfl) rfl (by decide +kernel)) rfl (pi_list (pv 2))
        (fun _ _ _ _ _ => pg_name (i := 0) (nd_two (by decide +kernel)) rfl (Or.inl rfl)) (fun _ _ _ _ _ => pts_one (pt_cmpR (op_notIn_intsK K rfl) (pv 0) (pv 1) (by with_unfolding_all rfl))) (fun _ _ _ _ _ => pv 0))
      (pss_one (ps_ret (pe_tup (pa_cons (pv 4) (pa_cons (pv 5) pa_nil)))))))), ?_⟩
    refine ⟨_, rfl, _, rfl, links, a, os, rfl, hS, R, fun h8 => ?_, fun h8 c hc => q2 h8 c hc⟩
    have R8 : RowOk links os 8 := ⟨R.lo, R.hi, R.inc, R.rng, h8⟩
    obtain ⟨t0, t1⟩ := sumAt_row R hnl
    refine ⟨_, rfl, _, rfl, _, rfl, _, rfl, _, rfl, links, a, h, os, ns, rfl, hS, hN, R, hnl, fun hb H1 s1 => ?_, fun hb c hc H1 s1 => q3 h8 hb c hc H1 s1⟩
    refine ⟨_, _, rfl, rfl, links, a, os, _, rfl, s1.seq hS, R8, by omega, by omega, fun hw c hc H2 s2 => q4 h8 hb hw c hc H2 (s1.trans s2), fun hw hW l ms H2 s2 hl hL hpay => ?_⟩
    have s12 := s1.trans s2
    have hml : ms.length ≤ 900 := by
      have := hpay.len
      have := sizes_len (links := links) (os := os)
      omega
    refine ⟨_, rfl, l, rfl, ⟨_, SqL.of hL⟩, fun Dg hDg => ⟨[none, some (.ref h)], .skip (.take (i := 2) .nil rfl rfl (Or.inr (Or.inl rfl)) rfl (Or.inl rfl) (Or.inl rfl)), ?_⟩⟩
    refine lc_outs (.inl hL) (s12.seq hN) hDg hml fun H3 s3 hg3 => ?_
    have s13 := s12.trans s3
    refine ⟨_, rfl, h, rfl, ⟨_, s13.seq hN⟩, fun Dt hDt => ⟨[none, some (.ref l)], .skip (.take (i := 3) .nil rfl rfl (Or.inr (Or.inl rfl)) rfl (Or.inl rfl) (Or.inl rfl)), ?_⟩⟩
    refine lc_outs (.inr (s13.seq hN)) (SqL.of (s3 _ _ hL)) hDt (by omega) fun H4 s4 ht4 => ?_
    refine ⟨_, rfl, _, rfl, (by show 2 ≤ sizeLine; decide), fun p hp => ?_⟩
    have s5 := same_new hp (.tup [.ref Dg, .ref Dt])
    refine q h8 hb hw hW p Dg Dt ms _ (s13.trans (s4.trans s5)) upd_same (s5 _ _ (s4 _ _ hg3)) (s5 _ _ ht4) (s12.free hDg) (s13.free hDt) (ne_of_none hg3 hDt) hpay
theorem okR_step (D : Df K mg "step" ["links", "opened", "held"] s_step) (C1 : Cal P w K mg base (CXE P w) 3 "check_few_opened" ["links", "opened"] (spBadR K mg)) : Cal P w K mg base (CXE P w) 7 "step" ["links", "opened", "held"] (spBadR3 K mg) := by
  refine D.okE sc_step (fun vs H Q E h => ?_) (fun f cdv A outer s H vs Q E hr h => ?_)
  · obtain ⟨l, a, os, v, rfl, _⟩ := h
    rfl
  · obtain ⟨links, a, os, v, rfl, rest⟩ := h
    have hr3 : Room 3 _ := hr.mono (by decide)
    exact ⟨_, pss_cons (ps_expr (pe_calE C1 throws_cx hr3 rfl (pa_cons (pv 0) (pa_cons (pv 1) pa_nil)))) pss_never, _, rfl, _, rfl, links, a, os, rfl, rest⟩
/-! check_length -/
def spLenX (mg : Str → Option Value) : Sp := fun vs H Q E => ∃ (links : Int), vs = [.int links] ∧ links.natAbs.log2 < 1920 ∧ (1 ≤ links ∧ links ≤ 60 → Q .non H) ∧ (¬ (1 ≤ links ∧ links ≤ 60) → ∀ c, mg "NoNote" = some (.ref c) → E (.ref c) none H)
theorem sc_check_length : FnScope ["links"] ["links"] (defScope s_check_length) := ⟨rfl, rfl, rfl, by decide +kernel, rfl, by decide +kernel, by decide +kernel⟩
theorem okX_check_length (D : Df K mg "check_length" ["links"] s_check_length) (hM : ∃ t, mg "MOST_SIGNS" = some (.int 60 t)) {c : Addr} (O : XC K mg "NoNote" c) : Cal P w K mg base (CXE P w) 1 "check_length" ["links"] (spLenX mg) := by
  obtain ⟨tM, hM⟩ := hM
  refine D.okE sc_check_length (fun vs H Q E h => ?_) (fun f cdv A outer s H vs Q E hr h => ?_)
  · obtain ⟨l, rfl, _⟩ := h
    rfl
  · obtain ⟨l, rfl, hlog, q, qe⟩ := h
    refine ⟨_, pss_one (ps_if (pt_not (pt_chain op_le op_le pe_int (pv 0) (pe_glob (v := .int 60) rfl hM ⟨_, rfl⟩)))
      (pss_one (ps_raise O throws_cx rfl (pa_cons (pe_fstr (pj_str (pj_int (pe_glob (v := .int 60) rfl hM ⟨_, rfl⟩) (pj_str (pj_int (pv 0) pj_nil)))) (by decide +kernel)) pa_nil))) pss_nil), ?_⟩
    refine ⟨_, rfl, _, _, rfl, rfl, _, rfl, ite2D (fun h0 => ⟨_, _, rfl, rfl, _, rfl, ite2N (fun h1 => ?_) (fun h1 => ?_)⟩) (fun h0 => ⟨_, rfl, iteT ?_⟩)⟩
    · exact ⟨⟨rfl, _, rfl, by decide, _, rfl, rfl, _, rfl, hlog, trivial⟩, fun y => ⟨by show 1 ≤ sizeLine; decide, qe (fun z => h1 z.2) c O.bound⟩⟩
    · exact q ⟨h0, h1⟩
    · exact ⟨⟨rfl, _, rfl, by decide, _, rfl, rfl, _, rfl, hlog, trivial⟩, fun y => ⟨by show 1 ≤ sizeLine; decide, qe (fun z => h0 z.1) c O.bound⟩⟩
/-! shown -/
def spShownX (K : PySem.W.Frag) (mg : Str → Option Value) : Sp := fun vs H Q E => ∃ (links : Int) (a : Addr) (os : List Int), vs = [.int links, .ref a] ∧ SqL K H a (os.map V.int) ∧ RowOk links os 100 ∧
  (links ≤ 60 → ∀ H', Same H H' → Q (.str (noteS os links.toNat)) H') ∧ (60 < links → ∀ c, mg "NoNote" = some (.ref c) → E (.ref c) none H)
theorem sc_shown : FnScope ["links", "opened"] ["links", "opened"] (defScope s_shown) := ⟨rfl, rfl, rfl, by decide +kernel, rfl, by decide +kernel, by decide +kernel⟩
theorem okX_shown (D : Df K mg "shown" ["links", "opened"] s_shown) (B : Bl mg) (C1 : Cal P w K mg base CX0 2 "check_row" ["links", "opened"] (spCheckRow K)) (C2 : Cal P w K mg base (CXE P w) 1 "check_length" ["links"] (spLenX mg)) :
    Cal P w K mg base (CXE P w) 3 "shown" ["links", "opened"] (spShownX K mg) := by
  have S := sc_shown
  refine D.okE S (fun vs H Q E h => ?_) (fun f cdv A outer s H vs Q E hr h => ?_)
  · obtain ⟨l, a, os, rfl, _⟩ := h
    rfl
  · obtain ⟨links, a, os, rfl, hS, R, q, qe⟩ := h
    have hr1 : Room 1 _ := hr.mono (by decide)
    have hlo := R.lo
    have hhi := R.hi
    refine ⟨_, pss_cons (ps_expr (pe_calf C1 hr rfl (pa_cons (pv 0) (pa_cons (pv 1) pa_nil))))
      (pss_cons (ps_expr (pe_calE C2 throws_cx hr1 rfl (pa_cons (pv 0) pa_nil)))
      (pss_one (ps_ret (pe_bm PySem.F.plainAttrs_str PySem.F.slot_str_join PySem.F.type_str_join mt_join1 pe_str (pa_cons (pe_lcomp (N := ["link", "opened"]) (cl := [("opened", s.heap.objs.size + 1)])
        (BlkS.free (sc := defScope s_shown) (ks := ["opened"]) rfl rfl rfl (by decide +kernel) (by decide +kernel) (fun p hp => by rw [List.mem_singleton.mp hp]; rfl) rfl (by decide +kernel)) rfl
        (pi_range1 rfl B.n_range (pa_cons (pv 0) pa_nil)) (fun _ _ _ _ _ => pg_name (i := 0) (nd_two (by decide +kernel)) rfl (Or.inl rfl)) (fun _ _ _ _ _ => pts_nil)
        (fun _ _ _ _ _ => pe_ifExp (pt_cmpR (op_in_intsK K rfl) (pv 0) (pv 1) (by with_unfolding_all rfl)) pe_str pe_str)) pa_nil))))), ?_⟩
    refine ⟨_, rfl, _, rfl, links, a, os, rfl, hS, R, ?_⟩
    refine ⟨_, rfl, links, rfl, log_small (by omega) (by omega), fun hl => ?_, fun hl c hc => qe (by omega) c hc⟩
    refine ⟨rfl, _, rfl, _, rfl, by omega, by omega, fun Dl hDl => ⟨[none, some (.ref a)], .skip (.take (i := 1) .nil rfl rfl (Or.inr (Or.inl rfl)) rfl (Or.inl rfl) (Or.inl rfl)), ?_⟩⟩
    refine lc_range (lo := 0) (D := Dl) (fun i σ H' => ∃ v : Option V, σ = [v, some (.ref a)] ∧ Same H H' ∧ H' Dl = some (.lst ((noteL os i).map fun c => V.str ⟨#[c]⟩))) ?_ ?_ ?_
    · exact ⟨none, rfl, same_new hDl _, upd_same⟩
    · rintro i σ H' hi ⟨v, rfl, sm, hd⟩
      have hlen : ((noteL os i).map fun c => V.str ⟨#[c]⟩).length < sizeLine := small1000 (by simp [noteL]; omega)
      have nxt' : ∀ c : Nat, c = signP os i → upd H' Dl (.lst (((noteL os i).map fun c => V.str ⟨#[c]⟩) ++ [V.str ⟨#[c]⟩])) Dl = some (.lst ((noteL os (i + 1)).map fun c => V.str ⟨#[c]⟩)) := fun c hc => by
        rw [upd_same, noteL_succ, List.map_append, hc]
        rfl
      have sm2 : ∀ o, Same H (upd H' Dl o) := fun o b u z => by
        rw [upd_ne (ne_of_none z hDl)]
        exact sm b u z
      refine ⟨_, rfl, _, rfl, _, a, os, rfl, rfl, sm.seq hS, _, rfl, ite2D (fun c => ?_) (fun c => ?_)⟩
      · rw [Int.zero_add] at c
        refine ⟨_, hd, hlen, _, rfl, sm2 _, ?_⟩
        rw [str_o]
        exact nxt' 111 (by unfold signP; rw [if_pos c])
      · rw [Int.zero_add] at c
        refine ⟨_, hd, hlen, _, rfl, sm2 _, ?_⟩
        rw [str_d]
        exact nxt' 45 (by unfold signP; rw [if_neg c])
    · rintro σ H' ⟨v, rfl, sm, hd⟩
      refine ⟨Dl, _, rfl, rfl, SqL.of hd, by simp [noteL]; omega, ?_⟩
      exact q (by omega) H' sm
theorem okR_shown (D : Df K mg "shown" ["links", "opened"] s_shown) (C1 : Cal P w K mg base (CXE P w) 2 "check_row" ["links", "opened"] (spBadR K mg)) : Cal P w K mg base (CXE P w) 3 "shown" ["links", "opened"] (spBadR K mg) := by
  refine D.okE sc_shown (fun vs H Q E h => ?_) (fun f cdv A outer s H vs Q E hr h => ?_)
  · obtain ⟨l, a, os, rfl, _⟩ := h
    rfl
  · obtain ⟨links, a, os, rfl, rest⟩ := h
    exact ⟨_, pss_cons (ps_expr (pe_calE C1 throws_cx hr rfl (pa_cons (pv 0) (pa_cons (pv 1) pa_nil)))) pss_never, _, rfl, _, rfl, links, a, os, rfl, rest⟩
/-! _law_cell_at -/
def cel (ns : List Int) (k : Int) : Int := ns.getD k.toNat 0
def spCell (K : PySem.W.Frag) : Sp := fun vs H Q _ => ∃ (a : Addr) (ns : List Int) (k : Int), vs = [.ref a, .int k] ∧ SqL K H a (ns.map V.int) ∧ 0 ≤ k ∧ Q (.int (cel ns k)) H
theorem sc__law_cell_at : FnScope ["script", "k"] ["script", "k"] (defScope s__law_cell_at) := ⟨rfl, rfl, rfl, by decide +kernel, rfl, by decide +kernel, by decide +kernel⟩
theorem ok__law_cell_at (D : Df K mg "_law_cell_at" ["script", "k"] s__law_cell_at) (B : Bl mg) : Cal P w K mg base CX0 1 "_law_cell_at" ["script", "k"] (spCell K) := by
  refine D.ok sc__law_cell_at (fun vs H Q E h => ?_) (fun f cdv A outer s H vs Q E hr h => ?_)
  · obtain ⟨a, ns, k, rfl, _⟩ := h
    rfl
  · obtain ⟨a, ns, k, rfl, hS, h0, q⟩ := h
    refine ⟨_, pss_cons (ps_if (pt_cmpR op_lt (pv 1) (pe_callB call_len_seq rfl B.n_len bb_len (pa_cons (pv 0) pa_nil)) (nomark _)) (pss_one (ps_ret (pe_ix ix_list (pv 0) (pv 1) (fun _ _ => rfl)))) pss_nil) (pss_one (ps_ret pe_int)), ?_⟩
    refine ⟨_, rfl, _, rfl, a, _, rfl, .inl hS, _, _, rfl, rfl, _, rfl, ite2D (fun c => ?_) (fun c => ?_)⟩
    · rw [List.length_map] at c
      have hk : k.toNat < ns.length := by omega
      have ek : k = ((k.toNat : Nat) : Int) := by omega
      have q1 : atI (ns.map V.int) ((k.toNat : Nat) : Int) = some (.int ns[k.toNat]) := atI_nat (by rw [List.getElem?_map, List.getElem?_eq_getElem hk]; rfl)
      rw [← ek] at q1
      have q2 : cel ns k = ns[k.toNat] := by
        unfold cel
        rw [List.getD_eq_getElem?_getD, List.getElem?_eq_getElem hk]
        rfl
      rw [q2] at q
      exact ⟨_, rfl, _, rfl, a, _, _, _, rfl, rfl, hS, q1, q⟩
    · rw [List.length_map] at c
      have q2 : cel ns k = 0 := by
        unfold cel
        rw [List.getD_eq_getElem?_getD, List.getElem?_eq_none (by omega)]
        rfl
      rw [q2] at q
      exact q
/-! _law_next -/
def nxt (n : Int) : Int := (n * 48271 + 12345) % 2147483647
def spNext : Sp := fun vs H Q _ => ∃ (n : Int), vs = [.int n] ∧ Q (.int (nxt n)) H
theorem sc__law_next : FnScope ["seed"] ["seed"] (defScope s__law_next) := ⟨rfl, rfl, rfl, by decide +kernel, rfl, by decide +kernel, by decide +kernel⟩
theorem ok__law_next (D : Df K mg "_law_next" ["seed"] s__law_next) : Cal P w K mg base CX0 1 "_law_next" ["seed"] spNext := by
  refine D.ok sc__law_next (fun vs H Q E h => ?_) (fun f cdv A outer s H vs Q E hr h => ?_)
  · obtain ⟨n, rfl, _⟩ := h
    rfl
  · obtain ⟨n, rfl, q⟩ := h
    refine ⟨_, pss_one (ps_ret (pe_op op_mod (pe_op op_add (pe_op op_mul (pv 0) pe_int) pe_int) pe_int)), ?_⟩
    exact ⟨_, rfl, _, _, rfl, rfl, .inr ⟨by decide, by decide⟩, _, _, rfl, rfl, _, _, rfl, rfl, (by show (0 : Int) < 2147483647; decide), q⟩
/-! _law_row_by -/
def spRowBy (K : PySem.W.Frag) : Sp := fun vs H Q _ => ∃ (a : Addr) (ns : List Int) (most : Int), vs = [.ref a, .int most] ∧ SqL K H a (ns.map V.int) ∧ 0 ≤ most ∧ most ≤ 60 ∧
  ∀ (p o : Addr) (links : Int) (os : List Int) (H' : Hp), Same H H' → H o = none → H' p = some (.tup [.int links, .ref o]) → H' o = some (.lst (os.map V.int)) → RowOk links os most.toNat → Q (.ref p) H'
theorem sc__law_row_by : FnScope ["script", "most", "links", "opened", "k", "cell", "link"] ["script", "most"] (defScope s__law_row_by) := ⟨rfl, rfl, rfl, by decide +kernel, rfl, by decide +kernel, by decide +kernel⟩
theorem ok__law_row_by (D : Df K mg "_law_row_by" ["script", "most"] s__law_row_by) (B : Bl mg) (C1 : Cal P w K mg base CX0 1 "_law_cell_at" ["script", "k"] (spCell K)) (C2 : Cal P w K mg base CX0 1 "_law_next" ["seed"] spNext) :
    Cal P w K mg base CX0 2 "_law_row_by" ["script", "most"] (spRowBy K) := by
  have S := sc__law_row_by
  refine D.ok S (fun vs H Q E h => ?_) (fun f cdv A outer s H vs Q E hr h => ?_)
  · obtain ⟨a, ns, m, rfl, _⟩ := h
    rfl
  · obtain ⟨a, ns, most, rfl, hS, m0, m1, q⟩ := h
    refine ⟨_, pss_cons (ps_set (i := 2) S.nd rfl (Or.inl rfl) (pe_op op_add pe_int (pe_op op_mod (pe_calf C2 hr rfl (pa_cons (pe_calf C1 hr rfl (pa_cons (pv 0) (pa_cons pe_int pa_nil))) pa_nil)) pe_int)))
      (pss_cons (ps_cut (ps_if (pt_cmpR op_eq (pe_op op_mod (pe_calf C1 hr rfl (pa_cons (pv 0) (pa_cons pe_int pa_nil))) pe_int) pe_int (nomark _))
          (pss_one (ps_set (i := 2) S.nd rfl (Or.inl rfl) (pe_op op_add pe_int (pe_op op_mod (pe_calf C1 hr rfl (pa_cons (pv 0) (pa_cons pe_int pa_nil))) (pe_op op_pow pe_int pe_int))))) pss_nil))
      (pss_cons (ps_set (i := 3) S.nd rfl (Or.inl rfl) (pe_lst pa_nil))
      (pss_cons (ps_for PassesOwn.never rfl (pi_range1 rfl B.n_range (pa_cons (pe_op op_mod (pe_calf C1 hr rfl (pa_cons (pv 0) (pa_cons pe_int pa_nil))) (pe_op op_add (pv 1) pe_int)) pa_nil)) (pg_name (i := 4) S.nd rfl (Or.inl rfl))
        (pss_cons (ps_set (i := 5) S.nd rfl (Or.inl rfl) (pe_calf C1 hr rfl (pa_cons (pv 0) (pa_cons (pe_op op_add pe_int (pv 4)) pa_nil))))
        (pss_cons (ps_cut (ps_if (pt_and2 (pt_cmpR op_eq (pe_op op_mod (pv 5) pe_int) pe_int (nomark _)) (pt_cmpR op_gt (pe_callB call_len_seq rfl B.n_len bb_len (pa_cons (pv 3) pa_nil)) pe_int (nomark _)))
            (pss_one (ps_set (i := 6) S.nd rfl (Or.inl rfl) (pe_op op_add (pe_op op_add (pe_ix ix_list (pv 3) (pe_un un_neg pe_int) (fun _ _ => rfl)) pe_int) (pe_op op_mod (pe_op op_fdiv (pv 5) pe_int) pe_int))))
            (pss_one (ps_set (i := 6) S.nd rfl (Or.inl rfl) (pe_op op_mod (pe_op op_fdiv (pv 5) pe_int) (pv 2))))))
        (pss_one (ps_if (pt_and2 (pt_cmpR op_lt (pv 6) (pv 2) (nomark _)) (pt_cmpR op_notIn_ints (pv 6) (pv 3) (by with_unfolding_all rfl)))
            (pss_one (ps_expr (pe_bm PySem.F.plainAttrs_list PySem.F.slot_list_append PySem.F.type_list_append mt_append (pv 3) (pa_cons (pv 6) pa_nil)))) pss_nil)))))
      (pss_one (ps_ret (pe_tup (pa_cons (pv 2) (pa_cons (pe_callB call_sorted rfl B.n_sorted bb_sorted (pa_cons (pv 3) pa_nil)) pa_nil)))))))), ?_⟩
    -- links = 1 + _law_next(_law_cell_at(script, 0)) % 40
    refine ⟨_, rfl, a, ns, 0, rfl, hS, Int.le_refl 0, _, rfl, _, _, rfl, rfl, (by show (0 : Int) < 40; decide), _, _, rfl, rfl, ?_⟩
    -- the row's length is drawn
    refine ⟨fun σ2 H2 => H2 = H ∧ ∃ (L : Int), σ2 = [some (.ref a), some (.int most), some (.int L), none, none, none, none] ∧ 1 ≤ L ∧ L ≤ 10 ^ 30, ?_, ?_⟩
    · refine ⟨_, rfl, a, ns, 1, rfl, hS, by decide, _, _, rfl, rfl, (by show (0 : Int) < 4; decide), rfl, _, rfl, ite2D (fun c => ?_) (fun c => ?_)⟩
      · refine ⟨_, rfl, a, ns, 0, rfl, hS, Int.le_refl 0, _, _, rfl, rfl, ⟨by decide, by decide, by decide⟩, _, _, rfl, rfl, (by show (0 : Int) < 10 ^ 30; decide), _, _, rfl, rfl, ?_⟩
        refine ⟨rfl, _, rfl, ?_⟩
        have h1 := Int.emod_nonneg (cel ns 0) (show (10 ^ 30 : Int) ≠ 0 by decide)
        have h2 := Int.emod_lt_of_pos (cel ns 0) (show (0 : Int) < 10 ^ 30 by decide)
        show 1 ≤ 1 + cel ns 0 % (10 ^ 30) ∧ 1 + cel ns 0 % (10 ^ 30) ≤ 10 ^ 30
        omega
      · refine ⟨rfl, _, rfl, ?_⟩
        have h1 := Int.emod_nonneg (nxt (cel ns 0)) (show (40 : Int) ≠ 0 by decide)
        have h2 := Int.emod_lt_of_pos (nxt (cel ns 0)) (show (0 : Int) < 40 by decide)
        omega
    rintro σ2 H2 ⟨rfl, L, rfl, hL1, hL2⟩
    -- opened = []
    refine ⟨by show 0 ≤ sizeLine; decide, fun o ho => ?_⟩
    have e0 := Int.emod_nonneg (cel ns 2) (show most + 1 ≠ 0 by omega)
    have e1 := Int.emod_lt_of_pos (cel ns 2) (show 0 < most + 1 by omega)
    refine ⟨_, rfl, a, ns, 2, rfl, (same_new ho _).seq hS, by decide, _, rfl, _, _, rfl, rfl, _, _, rfl, rfl, (by show 0 < most + 1; omega), _, rfl, (by omega), (by omega), ?_⟩
    refine for_range (lo := 0) (fun i σ H' => ∃ (os : List Int) (v1 v2 v3 : Option V), σ = [some (.ref a), some (.int most), some (.int L), some (.ref o), v1, v2, v3] ∧ Same H2 H' ∧ H' o = some (.lst (os.map V.int)) ∧ Drawn L os i) ?_ ?_ ?_
    · exact ⟨[], none, none, none, rfl, same_new ho _, upd_same, List.nodup_nil, fun x hx => by simp at hx, Nat.le_refl _⟩
    · rintro i σ H' hi ⟨os, v1, v2, v3, rfl, sm, at_, dr⟩
      have hSq : SqL K H' a (ns.map V.int) := sm.seq hS
      have hlen : os.length ≤ 60 := by have := dr.len; omega
      -- cell = _law_cell_at(script, 3 + k)
      refine ⟨_, rfl, _, rfl, _, _, rfl, rfl, a, ns, _, rfl, hSq, (by omega), ?_⟩
      generalize cel ns _ = cell
      -- link
      refine ⟨fun σ3 H3 => H3 = H' ∧ ∃ (x : Int) (v1 v2 : Option V), σ3 = [some (.ref a), some (.int most), some (.int L), some (.ref o), v1, v2, some (.int x)] ∧ 0 ≤ x, ?_, ?_⟩
      · refine ⟨_, rfl, _, _, rfl, rfl, (by show (0 : Int) < 3; decide), rfl, _, rfl, ite2D (fun c => ?_) (fun c => ?_)⟩
        · refine ⟨_, rfl, o, _, rfl, .inl (SqL.of at_), _, _, rfl, rfl, _, rfl, ite2D (fun c2 => ?_) (fun c2 => ?_)⟩
          · rw [List.length_map] at c2
            obtain ⟨ini, z, rfl⟩ : ∃ ini z, os = ini ++ [z] := by
              rcases List.eq_nil_or_concat os with h | ⟨l, b, h⟩
              · subst h; simp at c2
              · exact ⟨l, b, by rw [h, List.concat_eq_append]⟩
            have hz := (dr.rng z (by simp)).1
            have hat : atI ((ini ++ [z]).map V.int) (-1) = some (.int z) := by rw [List.map_append]; exact atI_last _ _
            refine ⟨_, rfl, _, rfl, o, _, _, _, rfl, rfl, SqL.of at_, hat, _, _, rfl, rfl, _, rfl, _, _, rfl, rfl, ⟨by decide, by decide⟩, _, _, rfl, rfl, (by show (0 : Int) < 4; decide), _, _, rfl, rfl, rfl, _, _, _, rfl, ?_⟩
            have := Int.emod_nonneg (cell / 3) (show (4 : Int) ≠ 0 by decide)
            omega
          · refine ⟨_, rfl, _, _, rfl, rfl, ⟨by decide, by decide⟩, _, rfl, _, _, rfl, rfl, (by show (0 : Int) < L; omega), rfl, _, _, _, rfl, ?_⟩
            exact Int.emod_nonneg _ (by omega)
        · refine ⟨_, rfl, _, _, rfl, rfl, ⟨by decide, by decide⟩, _, rfl, _, _, rfl, rfl, (by show (0 : Int) < L; omega), rfl, _, _, _, rfl, ?_⟩
          exact Int.emod_nonneg _ (by omega)
      · rintro σ3 H3 ⟨rfl, x, v1', v2', rfl, hx⟩
        refine ⟨_, rfl, _, rfl, _, _, rfl, rfl, _, rfl, ite2D (fun c => ?_) (fun c => ?_)⟩
        · refine ⟨_, rfl, _, rfl, _, o, os, rfl, rfl, SqL.of at_, _, rfl, ite2N (fun c2 => ?_) (fun c2 => ?_)⟩
          · refine ⟨_, rfl, .inl ⟨rfl, _, SqL.of at_⟩, _, rfl, o, _, _, rfl, rfl, at_, small1000 (by rw [List.length_map]; omega), ?_⟩
            refine ⟨os ++ [x], _, _, _, rfl, fun b u e => ?_, ?_, dr.more hx c c2⟩
            · rw [upd_ne (ne_of_none e ho)]
              exact sm b u e
            · rw [upd_same, List.map_append]
              rfl
          · exact ⟨os, _, _, _, rfl, sm, at_, dr.skip⟩
        · exact ⟨os, _, _, _, rfl, sm, at_, dr.skip⟩
    · rintro σ H' ⟨os, v1, v2, v3, rfl, sm, at_, dr⟩
      have hlen : os.length ≤ 60 := by have := dr.len; omega
      refine ⟨_, rfl, _, rfl, o, os, rfl, SqL.of at_, (by omega), fun l ns' hl pm so => ⟨by show 2 ≤ sizeLine; decide, fun p hp => ?_⟩⟩
      have s1 : Same H2 (upd H' l (.lst (ns'.map V.int))) := sm.trans (same_new hl _)
      refine q p l L ns' _ (s1.trans (same_new hp _)) (sm.free hl) upd_same ?_ ?_
      · rw [upd_ne (ne_of_none upd_same hp)]
        exact upd_same
      · have d2 : Drawn L os most.toNat := ⟨dr.nd, dr.rng, by have := dr.len; omega⟩
        exact d2.row hL1 hL2 pm so
/-! _law_other -/
def spOther (K : PySem.W.Frag) (C : Nat → Addr) (cp : Addr) : SpH := fun e oe vs H Q => ∃ (i : Nat) (wn : Int), vs = [.ref e, .int wn] ∧ i < 7 ∧ oe.cls = .ref (C i) ∧ Rz K C cp i ∧ ∀ H', Same H H' → Q (.bl (!decide (wn = i))) H'
theorem sc__law_other : FnScope ["e", "wanted", "marks"] ["e", "wanted"] (defScope s__law_other) := ⟨rfl, rfl, rfl, by decide +kernel, rfl, by decide +kernel, by decide +kernel⟩
theorem ok__law_other (D : Df K mg "_law_other" ["e", "wanted"] s__law_other) (B : Bl mg) {C : Nat → Addr} {cp : Addr} (N7 : Cls7 mg C cp) : CalH P w K mg base 1 "_law_other" ["e", "wanted"] (spOther K C cp) := by
  have S := sc__law_other
  refine D.okH S (fun e oe vs H Q h => ?_) (fun f cdv A outer s H vs Q e oe hr hh hx h => ?_)
  · obtain ⟨i, wn, rfl, _⟩ := h
    rfl
  · obtain ⟨i, wn, rfl, hi, hc, R, q⟩ := h
    have hu := hr.units
    have hd : Hd ((cxOf CX0 P w K mg base ["e", "wanted", "marks"] "_law_other" (defScope s__law_other) f cdv A outer s H E0).sui (A.deeper (PyProof.Rows.envOfC "_law_other" (defScope s__law_other) s.heap.objs.size f cdv)) [(e, oe)]) e oe := ⟨hh, List.mem_singleton.mpr rfl⟩
    refine ⟨_, pss_cons (ps_set (i := 2) S.nd rfl (Or.inl rfl) (pe_lst (pa_cons (pe_callB (call_isinstE hd.pn) rfl B.n_isinstance bb_isinstance (pa_cons (pv 0) (pa_cons (pe_glob (v := .ref (C 0)) rfl N7.n0 rfl) pa_nil)))
        (pa_cons (pe_callB (call_isinstE hd.pn) rfl B.n_isinstance bb_isinstance (pa_cons (pv 0) (pa_cons (pe_glob (v := .ref (C 1)) rfl N7.n1 rfl) pa_nil)))
        (pa_cons (pe_callB (call_isinstE hd.pn) rfl B.n_isinstance bb_isinstance (pa_cons (pv 0) (pa_cons (pe_glob (v := .ref (C 2)) rfl N7.n2 rfl) pa_nil)))
        (pa_cons (pe_callB (call_isinstE hd.pn) rfl B.n_isinstance bb_isinstance (pa_cons (pv 0) (pa_cons (pe_glob (v := .ref (C 3)) rfl N7.n3 rfl) pa_nil))) pa_nil))))))
      (pss_cons (ps_set (i := 2) S.nd rfl (Or.inl rfl) (pe_op op_cat (pv 2) (pe_lst (pa_cons (pe_callB (call_isinstE hd.pn) rfl B.n_isinstance bb_isinstance (pa_cons (pv 0) (pa_cons (pe_glob (v := .ref (C 4)) rfl N7.n4 rfl) pa_nil)))
        (pa_cons (pe_callB (call_isinstE hd.pn) rfl B.n_isinstance bb_isinstance (pa_cons (pv 0) (pa_cons (pe_glob (v := .ref (C 5)) rfl N7.n5 rfl) pa_nil)))
        (pa_cons (pe_callB (call_isinstE hd.pn) rfl B.n_isinstance bb_isinstance (pa_cons (pv 0) (pa_cons (pe_glob (v := .ref (C 6)) rfl N7.n6 rfl) pa_nil))) pa_nil))))))
      (pss_one (ps_ret (pe_or (pe_cmpR (op_neD hu) (pv 2) (pe_lcompX (N := ["k", "wanted"]) (cl := [("wanted", s.heap.objs.size + 1)])
          (BlkS.free (sc := defScope s__law_other) (ks := ["wanted"]) rfl rfl rfl (by decide +kernel) (by decide +kernel) (fun p hp => by rw [List.mem_singleton.mp hp]; rfl) rfl (by decide +kernel))
          (pi_range1X hd rfl B.n_range (pa_cons pe_int pa_nil)) (fun _ _ _ _ _ => pg_name (i := 0) (nd_two (by decide +kernel)) rfl (Or.inl rfl)) (fun _ _ _ _ _ => pts_nil) (fun _ _ _ _ _ => pe_cmpR op_eq (pv 0) (pv 1) (nomark _))) (nomark _))
        (pe_one (pe_not (pe_callB (call_isinstE hd.pn) rfl B.n_isinstance bb_isinstance (pa_cons (pv 0) (pa_cons (pe_bltn (v := .ty "ValueError") rfl B.n_ValueError bb_ValueError rfl) pa_nil))))))))), ?_⟩
    have kt := R.kit
    refine ⟨_, rfl, C i, _, _, rfl, hx, hc, R.ek, kt 0 (by decide), _, rfl, C i, _, _, rfl, hx, hc, R.ek, kt 1 (by decide), _, rfl, C i, _, _, rfl, hx, hc, R.ek, kt 2 (by decide), _, rfl, C i, _, _, rfl, hx, hc, R.ek, kt 3 (by decide), by show 4 ≤ sizeLine; decide, fun l1 hl1 => ?_⟩
    refine ⟨_, rfl, _, rfl, C i, _, _, rfl, hx, hc, R.ek, kt 4 (by decide), _, rfl, C i, _, _, rfl, hx, hc, R.ek, kt 5 (by decide), _, rfl, C i, _, _, rfl, hx, hc, R.ek, kt 6 (by decide), by show 3 ≤ sizeLine; decide, fun l2 hl2 => ?_⟩
    have n12 : l1 ≠ l2 := fun z => by rw [← z, upd_same] at hl2; cases hl2
    refine ⟨l1, l2, _, _, rfl, rfl, by rw [upd_ne n12]; exact upd_same, upd_same, by show 7 ≤ sizeLine; decide, fun m hm => ?_⟩
    have s2 : Same H (upd (upd (upd H l1 (.lst [V.bl (decide (i = 0)), V.bl (decide (i = 1)), V.bl (decide (i = 2)), V.bl (decide (i = 3))])) l2 (.lst [V.bl (decide (i = 4)), V.bl (decide (i = 5)), V.bl (decide (i = 6))])) m (.lst ([V.bl (decide (i = 0)), V.bl (decide (i = 1)), V.bl (decide (i = 2)), V.bl (decide (i = 3))] ++ [V.bl (decide (i = 4)), V.bl (decide (i = 5)), V.bl (decide (i = 6))]))) := ((same_new hl1 _).trans (same_new hl2 _)).trans (same_new hm _)
    refine ⟨_, rfl, hx, _, rfl, by decide, by decide, fun Dl hDl => ⟨[none, some (.int wn)], .skip (.take (i := 1) .nil rfl rfl (Or.inr (Or.inl rfl)) rfl (Or.inl rfl) (Or.inl rfl)), ?_⟩⟩
    refine lc_range (lo := 0) (n := 7) (D := Dl) (fun j σ H' => ∃ v : Option V, σ = [v, some (.int wn)] ∧ Same (upd (upd (upd H l1 (.lst [V.bl (decide (i = 0)), V.bl (decide (i = 1)), V.bl (decide (i = 2)), V.bl (decide (i = 3))])) l2 (.lst [V.bl (decide (i = 4)), V.bl (decide (i = 5)), V.bl (decide (i = 6))])) m (.lst ([V.bl (decide (i = 0)), V.bl (decide (i = 1)), V.bl (decide (i = 2)), V.bl (decide (i = 3))] ++ [V.bl (decide (i = 4)), V.bl (decide (i = 5)), V.bl (decide (i = 6))]))) H' ∧ H' Dl = some (.lst (((List.range j).map fun j => decide (((j : Nat) : Int) = wn)).map V.bl))) ?_ ?_ ?_
    · exact ⟨none, rfl, same_new hDl _, upd_same⟩
    · rintro j σ H' hj ⟨v, rfl, sm, hd'⟩
      refine ⟨_, rfl, _, rfl, rfl, _, hd', small1000 (by simp; omega), _, rfl, fun b u z => ?_, ?_⟩
      · rw [upd_ne (ne_of_none z hDl)]
        exact sm b u z
      · rw [upd_same, List.range_succ, List.map_append, List.map_append]
        simp
    · rintro σ H' ⟨v, rfl, sm, hd'⟩
      refine ⟨_, _, .lst (xs := (marksB i).map V.bl) (SqL.of (sm _ _ upd_same)) (dvs_bools (marksB i)), .lst (SqL.of hd') (dvs_bools (wantB wn)), shaped_bools _, shaped_bools _, _, rfl, ?_⟩
      rw [eqv_bools _ _ (by simp [marksB, wantB]), marks_want hi]
      refine ite2N (fun c => ?_) (fun c => ?_)
      · have := q H' (s2.trans sm)
        rw [decide_eq_false c] at this
        exact this
      · refine ⟨_, rfl, C i, _, _, rfl, hx, hc, R.ek, R.val, _, rfl, ?_⟩
        have := q H' (s2.trans sm)
        rw [decide_eq_true c] at this
        exact this
/-! _law_spoilt -/
theorem cutV_ints (ds : List Int) (lo hi : Option Int) : ∃ es : List Int, cutV (ds.map V.int) lo hi = es.map V.int ∧ es.length ≤ ds.length := by
  unfold cutV
  rw [← List.map_drop, ← List.map_take]
  exact ⟨_, rfl, by rw [List.length_take, List.length_drop]; omega⟩
/-- what may come of it: at most 14 opened links, or many at the row's begin -/
def Spoilt (links : Int) (os : List Int) : Prop := os.length ≤ 30 ∨ (links = 200 ∧ ∃ n : Nat, 98 ≤ n ∧ n ≤ 103 ∧ os = rngI n)
def spSpoilt (K : PySem.W.Frag) : Sp := fun vs H Q _ => ∃ (links : Int) (o : Addr) (os : List Int) (how cell : Int), vs = [.int links, .ref o, .int how, .int cell] ∧ H o = some (.lst (os.map V.int)) ∧ RowOk links os 12 ∧ 0 ≤ cell ∧
  ∀ (p o' : Addr) (links' : Int) (os' : List Int) (H' : Hp), Same H H' → H' p = some (.tup [.int links', .ref o']) → H' o' = some (.lst (os'.map V.int)) → -(10 ^ 40) ≤ links' → links' ≤ 10 ^ 40 → Spoilt links' os' → Q (.ref p) H'
theorem sc__law_spoilt : FnScope ["links", "opened", "how", "cell", "at", "odd"] ["links", "opened", "how", "cell"] (defScope s__law_spoilt) := ⟨rfl, rfl, rfl, by decide +kernel, rfl, by decide +kernel, by decide +kernel⟩
set_option maxHeartbeats 0 in
theorem ok__law_spoilt (D : Df K mg "_law_spoilt" ["links", "opened", "how", "cell"] s__law_spoilt) (B : Bl mg) : Cal P w K mg base CX0 1 "_law_spoilt" ["links", "opened", "how", "cell"] (spSpoilt K) := by
  have S := sc__law_spoilt
  refine D.ok S (fun vs H Q E h => ?_) (fun f cdv A outer s H vs Q E hr h => ?_)
  · obtain ⟨_, _, _, _, _, rfl, _⟩ := h
    rfl
  · obtain ⟨links, o, os, how, cell, rfl, hO, R, c0, q⟩ := h
    refine ⟨_, pss_cons (ps_set (i := 4) S.nd rfl (Or.inl rfl) (pe_op op_mod (pv 3) (pe_op op_add (pe_callB call_len_seq rfl B.n_len bb_len (pa_cons (pv 1) pa_nil)) pe_int)))
      (pss_cons (ps_set (i := 5) S.nd rfl (Or.inl rfl) (pe_ix ix_list (pe_lst (pa_cons (pe_un un_neg pe_int) (pa_cons (pv 0) (pa_cons (pe_op op_add (pv 0) (pe_op op_mod (pe_op op_fdiv (pv 3) pe_int) (pe_op op_pow pe_int pe_int))) (pa_cons (pe_un un_neg (pe_op op_pow pe_int pe_int)) pa_nil))))) (pe_op op_mod (pe_op op_fdiv (pv 3) pe_int) pe_int) (fun _ _ => rfl)))
      (pss_cons (ps_if (pt_cmpR op_eq (pv 2) pe_int (nomark _)) (pss_one (ps_ret (pe_tup (pa_cons (pe_ix ix_list (pe_lst (pa_cons pe_int (pa_cons (pe_un un_neg pe_int) (pa_cons (pe_op op_add (pe_op op_pow pe_int pe_int) pe_int) (pa_cons (pe_op op_pow pe_int pe_int) pa_nil))))) (pe_op op_mod (pv 3) pe_int) (fun _ _ => rfl)) (pa_cons (pv 1) pa_nil))))) pss_nil)
      (pss_cons (ps_if (pt_cmpR op_eq (pv 2) pe_int (nomark _)) (pss_one (ps_ret (pe_tup (pa_cons (pv 0) (pa_cons (pe_op op_cat (pe_op op_cat (pe_slice sl_list (pv 1) po_none (po_some (pv 4))) (pe_lst (pa_cons (pv 5) pa_nil))) (pe_slice sl_list (pv 1) (po_some (pv 4)) po_none)) pa_nil))))) pss_nil)
      (pss_cons (ps_cut (ps_if (pt_and2 (pt_cmpR op_eq (pv 2) pe_int (nomark _)) (pt_cmpR op_lt (pv 4) (pe_callB call_len_seq rfl B.n_len bb_len (pa_cons (pv 1) pa_nil)) (nomark _)))
        (pss_one (ps_ret (pe_tup (pa_cons (pv 0) (pa_cons (pe_op op_cat (pe_op op_cat (pe_slice sl_list (pv 1) po_none (po_some (pv 4))) (pe_lst (pa_cons (pe_ix ix_list (pv 1) (pv 4) (fun _ _ => rfl)) pa_nil))) (pe_slice sl_list (pv 1) (po_some (pv 4)) po_none)) pa_nil))))) pss_nil))
      (pss_cons (ps_cut (ps_if (pt_and2 (pt_cmpR op_eq (pv 2) pe_int (nomark _)) (pt_cmpR op_lt (pe_op op_add (pv 4) pe_int) (pe_callB call_len_seq rfl B.n_len bb_len (pa_cons (pv 1) pa_nil)) (nomark _)))
        (pss_one (ps_ret (pe_tup (pa_cons (pv 0) (pa_cons (pe_op op_cat (pe_op op_cat (pe_slice sl_list (pv 1) po_none (po_some (pv 4))) (pe_lst (pa_cons (pe_ix ix_list (pv 1) (pe_op op_add (pv 4) pe_int) (fun _ _ => rfl)) (pa_cons (pe_ix ix_list (pv 1) (pv 4) (fun _ _ => rfl)) pa_nil)))) (pe_slice sl_list (pv 1) (po_some (pe_op op_add (pv 4) pe_int)) po_none)) pa_nil))))) pss_nil))
      (pss_cons (ps_if (pt_cmpR op_eq (pv 2) pe_int (nomark _)) (pss_one (ps_ret (pe_tup (pa_cons pe_int (pa_cons (pe_listRange rfl B.n_list rfl B.n_range rfl (pa_cons (pe_op op_add pe_int (pe_op op_mod (pv 3) pe_int)) pa_nil)) pa_nil))))) pss_nil)
      (pss_one (ps_ret (pe_tup (pa_cons (pv 0) (pa_cons (pv 1) pa_nil))))))))))), ?_⟩
    have e16 : sizeLine = 16777216 := PySem.sizeLine_eq
    have hlo := R.lo
    have hhi := R.hi
    have hlen := R.len
    -- at
    refine ⟨_, rfl, _, rfl, o, _, rfl, .inl (SqL.of hO), _, _, rfl, rfl, _, _, rfl, rfl, (by rw [List.length_map]; omega), ?_⟩
    have t0 := Int.emod_nonneg cell (show ((List.map V.int os).length : Int) + 1 ≠ 0 by omega)
    obtain ⟨t, ht⟩ : ∃ t : Int, cell % (((List.map V.int os).length : Int) + 1) = t := ⟨_, rfl⟩
    rw [ht] at t0
    have hvt : (V.int (cell % (((List.map V.int os).length : Int) + 1))) = .int t := congrArg V.int ht
    -- odd
    refine ⟨_, rfl, _, rfl, _, rfl, _, rfl, _, _, rfl, rfl, ⟨by decide, by decide⟩, _, _, rfl, rfl, ⟨by decide, by decide, by decide⟩, _, _, rfl, rfl, (by show (0 : Int) < 10 ^ 29; decide), _, _, rfl, rfl, _, _, rfl, rfl, ⟨by decide, by decide, by decide⟩, _, rfl, (by show 4 ≤ sizeLine; decide), fun l0 hl0 => ?_⟩
    have s0 := same_new hl0 (.lst [V.int (-1), .int links, .int (links + cell / 13 % 10 ^ 29), .int (-10 ^ 29)])
    have g0 := Int.emod_nonneg (cell / 4) (show (4 : Int) ≠ 0 by decide)
    have g1 := Int.emod_lt_of_pos (cell / 4) (show (0 : Int) < 4 by decide)
    refine ⟨_, rfl, _, _, rfl, rfl, ⟨by decide, by decide⟩, _, _, rfl, rfl, (by show (0 : Int) < 4; decide), ?_⟩
    obtain ⟨z, hz⟩ : ∃ z : Int, atI [V.int (-1), .int links, .int (links + cell / 13 % 10 ^ 29), .int (-10 ^ 29)] (cell / 4 % 4) = some (.int z) := by
      rcases (show cell / 4 % 4 = 0 ∨ cell / 4 % 4 = 1 ∨ cell / 4 % 4 = 2 ∨ cell / 4 % 4 = 3 by omega) with e | e | e | e <;> rw [e]
      · exact ⟨_, rfl⟩
      · exact ⟨_, rfl⟩
      · exact ⟨_, rfl⟩
      · exact ⟨_, rfl⟩
    refine ⟨l0, _, _, .int z, rfl, rfl, SqL.of upd_same, hz, ?_⟩
    have hO0 := s0 _ _ hO
    have fin : ∀ {H' : Hp} {r : Addr} {xs : List Int} {lk : Int}, Same H H' → H' r = some (.lst (xs.map V.int)) → -(10 ^ 40) ≤ lk → lk ≤ 10 ^ 40 → Spoilt lk xs → [V.int lk, V.ref r].length ≤ sizeLine ∧ ∀ p, H' p = none → Q (.ref p) (upd H' p (.tup [.int lk, .ref r])) := fun {H' r xs lk} s' hr' b1 b2 sp =>
      ⟨by show 2 ≤ sizeLine; omega, fun p hp => q p r lk xs _ (s'.trans (same_new hp _)) upd_same (same_new hp _ _ _ hr') b1 b2 sp⟩
    have lk0 : -(10 ^ 40) ≤ links := by omega
    have lk1 : links ≤ 10 ^ 40 := by omega
    refine ⟨_, rfl, rfl, _, rfl, ite2D (fun c => ?_) (fun c => ?_)⟩
    · refine ⟨_, rfl, _, _, rfl, rfl, ⟨by decide, by decide, by decide⟩, _, _, rfl, rfl, _, _, rfl, rfl, ⟨by decide, by decide, by decide⟩, (by show 4 ≤ sizeLine; decide), fun l1 hl1 => ?_⟩
      have s1 := s0.trans (same_new hl1 (.lst [V.int 0, .int (-1), .int (10 ^ 30 + 1), .int (10 ^ 32)]))
      have k0 := Int.emod_nonneg cell (show (4 : Int) ≠ 0 by decide)
      have k1 := Int.emod_lt_of_pos cell (show (0 : Int) < 4 by decide)
      refine ⟨_, rfl, _, _, rfl, rfl, (by show (0 : Int) < 4; decide), ?_⟩
      obtain ⟨y, hy, y0, y1⟩ : ∃ y : Int, atI [V.int 0, .int (-1), .int (10 ^ 30 + 1), .int (10 ^ 32)] (cell % 4) = some (.int y) ∧ -(10 ^ 40) ≤ y ∧ y ≤ 10 ^ 40 := by
        rcases (show cell % 4 = 0 ∨ cell % 4 = 1 ∨ cell % 4 = 2 ∨ cell % 4 = 3 by omega) with e | e | e | e <;> rw [e]
        · exact ⟨0, rfl, by decide, by decide⟩
        · exact ⟨-1, rfl, by decide, by decide⟩
        · exact ⟨10 ^ 30 + 1, rfl, by decide, by decide⟩
        · exact ⟨10 ^ 32, rfl, by decide, by decide⟩
      refine ⟨l1, _, _, .int y, rfl, rfl, SqL.of upd_same, hy, _, rfl, ?_⟩
      exact fin s1 (s1 _ _ hO) y0 y1 (.inl (by omega))
    refine ⟨_, rfl, rfl, _, rfl, ite2D (fun c2 => ?_) (fun c2 => ?_)⟩
    · obtain ⟨e1, ee1, he1⟩ := cutV_ints os none (some t)
      obtain ⟨e2, ee2, he2⟩ := cutV_ints os (some t) none
      refine ⟨_, rfl, _, rfl, _, rfl, t, hvt, o, _, rfl, SqL.of hO0, fun p1 hp1 => ?_⟩
      rw [ee1]
      have s2 := same_new hp1 (.lst (e1.map V.int))
      refine ⟨_, rfl, (by show 1 ≤ sizeLine; decide), fun l2 hl2 => ?_⟩
      have s4 := s2.trans (same_new hl2 (.lst [V.int z]))
      have hp1' := same_new hl2 (.lst [V.int z]) _ _ (upd_same (H := upd H l0 (.lst [V.int (-1), .int links, .int (links + cell / 13 % 10 ^ 29), .int (-10 ^ 29)])) (a := p1) (o := .lst (e1.map V.int)))
      refine ⟨p1, l2, _, _, rfl, rfl, hp1', upd_same, (by rw [List.length_map]; show e1.length + 1 ≤ sizeLine; omega), fun r1 hr1 => ?_⟩
      have x1 : e1.map V.int ++ [V.int z] = (e1 ++ [z]).map V.int := by rw [List.map_append]; rfl
      rw [x1]
      have s5 := s4.trans (same_new hr1 (.lst ((e1 ++ [z]).map V.int)))
      refine ⟨_, rfl, _, rfl, t, hvt, o, _, rfl, SqL.of (s5 _ _ hO0), fun p2 hp2 => ?_⟩
      rw [ee2]
      have s6 := s5.trans (same_new hp2 (.lst (e2.map V.int)))
      refine ⟨r1, p2, _, _, rfl, rfl, same_new hp2 _ _ _ upd_same, upd_same, (by simp only [List.length_map, List.length_append, List.length_singleton]; omega), fun r hr' => ?_⟩
      rw [← List.map_append]
      exact fin (s0.trans (s6.trans (same_new hr' _))) upd_same lk0 lk1 (.inl (by simp only [List.length_append, List.length_singleton]; omega))
    -- one told twice
    have at_ok : ∀ {i : Int}, 0 ≤ i → i < os.length → ∃ y : Int, atI (os.map V.int) i = some (.int y) := fun {i} h0 h1 => by
      have hk : i.toNat < os.length := by omega
      have et : ((i.toNat : Nat) : Int) = i := by omega
      have := atI_nat (xs := os.map V.int) (j := i.toNat) (v := .int os[i.toNat]) (by rw [List.getElem?_map, List.getElem?_eq_getElem hk]; rfl)
      rw [et] at this
      exact ⟨_, this⟩
    obtain ⟨e1, ee1, he1⟩ := cutV_ints os none (some (cell % (((List.map V.int os).length : Int) + 1)))
    obtain ⟨e2, ee2, he2⟩ := cutV_ints os (some (cell % (((List.map V.int os).length : Int) + 1))) none
    obtain ⟨e3, ee3, he3⟩ := cutV_ints os (some (cell % (((List.map V.int os).length : Int) + 1) + 2)) none
    refine ⟨fun σ' H' => H' = upd H l0 (.lst [V.int (-1), .int links, .int (links + cell / 13 % 10 ^ 29), .int (-10 ^ 29)]) ∧ σ' = [some (.int links), some (.ref o), some (.int how), some (.int cell), some (.int (cell % (((List.map V.int os).length : Int) + 1))), some (.int z)], ?_, ?_⟩
    · refine ⟨_, rfl, rfl, _, rfl, ite2D (fun c3 => ?_) (fun c3 => ⟨rfl, rfl⟩)⟩
      refine ⟨_, rfl, _, rfl, o, _, rfl, .inl (SqL.of hO0), _, _, rfl, rfl, _, rfl, ite2D (fun c4 => ?_) (fun c4 => ⟨rfl, rfl⟩)⟩
      rw [ht, List.length_map] at c4
      obtain ⟨y, hy⟩ := at_ok t0 c4
      rw [← ht] at hy
      refine ⟨_, rfl, _, rfl, _, rfl, _, rfl, o, _, rfl, SqL.of hO0, fun p1 hp1 => ?_⟩
      rw [ee1]
      have s2 := same_new hp1 (.lst (e1.map V.int))
      refine ⟨_, rfl, _, rfl, o, _, _, .int y, rfl, rfl, SqL.of (s2 _ _ hO0), hy, (by show 1 ≤ sizeLine; decide), fun l2 hl2 => ?_⟩
      have s4 := s2.trans (same_new hl2 (.lst [V.int y]))
      have hp1' := same_new hl2 (.lst [V.int y]) _ _ (upd_same (H := upd H l0 (.lst [V.int (-1), .int links, .int (links + cell / 13 % 10 ^ 29), .int (-10 ^ 29)])) (a := p1) (o := .lst (e1.map V.int)))
      refine ⟨p1, l2, _, _, rfl, rfl, hp1', upd_same, (by rw [List.length_map]; show e1.length + 1 ≤ sizeLine; omega), fun r1 hr1 => ?_⟩
      have x1 : e1.map V.int ++ [V.int y] = (e1 ++ [y]).map V.int := by rw [List.map_append]; rfl
      rw [x1]
      have s5 := s4.trans (same_new hr1 (.lst ((e1 ++ [y]).map V.int)))
      refine ⟨_, rfl, _, rfl, _, rfl, o, _, rfl, SqL.of (s5 _ _ hO0), fun p2 hp2 => ?_⟩
      rw [ee2]
      have s6 := s5.trans (same_new hp2 (.lst (e2.map V.int)))
      refine ⟨r1, p2, _, _, rfl, rfl, same_new hp2 _ _ _ upd_same, upd_same, (by simp only [List.length_map, List.length_append, List.length_singleton]; omega), fun r hr' => ?_⟩
      rw [← List.map_append]
      exact fin (s0.trans (s6.trans (same_new hr' _))) upd_same lk0 lk1 (.inl (by simp only [List.length_append, List.length_singleton]; omega))
    rintro σ' H' ⟨rfl, rfl⟩
    -- two exchanged
    refine ⟨fun σ' H' => H' = upd H l0 (.lst [V.int (-1), .int links, .int (links + cell / 13 % 10 ^ 29), .int (-10 ^ 29)]) ∧ σ' = [some (.int links), some (.ref o), some (.int how), some (.int cell), some (.int (cell % (((List.map V.int os).length : Int) + 1))), some (.int z)], ?_, ?_⟩
    · refine ⟨_, rfl, rfl, _, rfl, ite2D (fun c3 => ?_) (fun c3 => ⟨rfl, rfl⟩)⟩
      refine ⟨_, rfl, _, _, rfl, rfl, _, rfl, o, _, rfl, .inl (SqL.of hO0), _, _, rfl, rfl, _, rfl, ite2D (fun c4 => ?_) (fun c4 => ⟨rfl, rfl⟩)⟩
      rw [ht, List.length_map] at c4
      obtain ⟨y, hy⟩ := at_ok t0 (by omega)
      obtain ⟨x, hx⟩ := at_ok (show 0 ≤ t + 1 by omega) c4
      rw [← ht] at hy hx
      refine ⟨_, rfl, _, rfl, _, rfl, _, rfl, o, _, rfl, SqL.of hO0, fun p1 hp1 => ?_⟩
      rw [ee1]
      have s2 := same_new hp1 (.lst (e1.map V.int))
      refine ⟨_, rfl, _, rfl, _, _, rfl, rfl, o, _, _, .int x, rfl, rfl, SqL.of (s2 _ _ hO0), hx, _, rfl, _, rfl, o, _, _, .int y, rfl, rfl, SqL.of (s2 _ _ hO0), hy, (by show 2 ≤ sizeLine; decide), fun l2 hl2 => ?_⟩
      have s4 := s2.trans (same_new hl2 (.lst [V.int x, .int y]))
      have hp1' := same_new hl2 (.lst [V.int x, .int y]) _ _ (upd_same (H := upd H l0 (.lst [V.int (-1), .int links, .int (links + cell / 13 % 10 ^ 29), .int (-10 ^ 29)])) (a := p1) (o := .lst (e1.map V.int)))
      refine ⟨p1, l2, _, _, rfl, rfl, hp1', upd_same, (by rw [List.length_map]; show e1.length + 2 ≤ sizeLine; omega), fun r1 hr1 => ?_⟩
      have x1 : e1.map V.int ++ [V.int x, .int y] = (e1 ++ [x, y]).map V.int := by rw [List.map_append]; rfl
      rw [x1]
      have s5 := s4.trans (same_new hr1 (.lst ((e1 ++ [x, y]).map V.int)))
      refine ⟨_, rfl, _, rfl, _, _, rfl, rfl, _, rfl, o, _, rfl, SqL.of (s5 _ _ hO0), fun p2 hp2 => ?_⟩
      rw [ee3]
      have s6 := s5.trans (same_new hp2 (.lst (e3.map V.int)))
      have l2' : [x, y].length = 2 := rfl
      refine ⟨r1, p2, _, _, rfl, rfl, same_new hp2 _ _ _ upd_same, upd_same, (by simp only [List.length_map, List.length_append, l2']; omega), fun r hr' => ?_⟩
      rw [← List.map_append]
      exact fin (s0.trans (s6.trans (same_new hr' _))) upd_same lk0 lk1 (.inl (by simp only [List.length_append, l2']; omega))
    rintro σ' H' ⟨rfl, rfl⟩
    have m0 := Int.emod_nonneg cell (show (6 : Int) ≠ 0 by decide)
    have m1 := Int.emod_lt_of_pos cell (show (0 : Int) < 6 by decide)
    refine ⟨_, rfl, rfl, _, rfl, ite2D (fun c3 => ?_) (fun c3 => ?_)⟩
    · refine ⟨_, rfl, _, _, rfl, rfl, (by show (0 : Int) < 6; decide), _, _, rfl, rfl, _, rfl, by omega, by omega, fun l hl => ?_⟩
      exact fin (xs := rngI (98 + cell % 6).toNat) (lk := 200) (s0.trans (same_new hl (.lst ((rngI (98 + cell % 6).toNat).map V.int)))) upd_same (by decide) (by decide) (.inr ⟨rfl, (98 + cell % 6).toNat, by omega, by omega, rfl⟩)
    · exact ⟨_, rfl, _, rfl, fin s0 hO0 lk0 lk1 (.inl (by omega))⟩
/-! _law_good -/
def goodB (links : Int) (os : List Int) : Bool := decide (os.length ≤ 100) && risesB links (-1) os
def spGood (K : PySem.W.Frag) : Sp := fun vs H Q _ => ∃ (links : Int) (a : Addr) (os : List Int), vs = [.int links, .ref a] ∧ SqL K H a (os.map V.int) ∧ os.length ≤ 900 ∧ Q (.bl (goodB links os)) H
theorem sc__law_good : FnScope ["links", "opened", "k"] ["links", "opened"] (defScope s__law_good) := ⟨rfl, rfl, rfl, by decide +kernel, rfl, by decide +kernel, by decide +kernel⟩
theorem ok__law_good (D : Df K mg "_law_good" ["links", "opened"] s__law_good) (B : Bl mg) : Cal P w K mg base CX0 1 "_law_good" ["links", "opened"] (spGood K) := by
  have S := sc__law_good
  refine D.ok S (fun vs H Q E h => ?_) (fun f cdv A outer s H vs Q E hr h => ?_)
  · obtain ⟨_, _, _, rfl, _⟩ := h
    rfl
  · obtain ⟨links, a, os, rfl, hS, h9, q⟩ := h
    refine ⟨_, pss_cons (ps_if (pt_cmpR op_gt (pe_callB call_len_seq rfl B.n_len bb_len (pa_cons (pv 1) pa_nil)) pe_int (nomark _)) (pss_one (ps_ret pe_bl)) pss_nil)
      (pss_cons (ps_for PassesOwn.never rfl (pi_range1 rfl B.n_range (pa_cons (pe_callB call_len_seq rfl B.n_len bb_len (pa_cons (pv 1) pa_nil)) pa_nil)) (pg_name (i := 2) S.nd rfl (Or.inl rfl))
        (pss_one (ps_if (pt_or2 (pt_not (pt_chain op_le op_lt pe_int (pe_ix ix_list (pv 1) (pv 2) (fun _ _ => rfl)) (pv 0)))
          (pt_and2 (pt_cmpR op_gt (pv 2) pe_int (nomark _)) (pt_cmpR op_ge (pe_ix ix_list (pv 1) (pe_op op_sub (pv 2) pe_int) (fun _ _ => rfl)) (pe_ix ix_list (pv 1) (pv 2) (fun _ _ => rfl)) (nomark _)))) (pss_one (ps_ret pe_bl)) pss_nil)))
      (pss_one (ps_ret pe_bl))), ?_⟩
    refine ⟨_, rfl, a, _, rfl, .inl hS, _, _, rfl, rfl, _, rfl, ite2D (fun c => ?_) (fun c => ?_)⟩
    · rw [List.length_map] at c
      have e : goodB links os = false := by
        unfold goodB
        rw [decide_eq_false (by omega)]
        rfl
      rw [e] at q
      exact q
    rw [List.length_map] at c
    have e0 : goodB links os = risesB links (-1) os := by
      unfold goodB
      rw [decide_eq_true (by omega)]
      rfl
    rw [e0] at q
    refine ⟨_, rfl, a, _, rfl, .inl hS, _, rfl, by rw [List.length_map]; omega, by rw [List.length_map]; omega, ?_⟩
    refine for_range (lo := 0) (fun i σ H' => H' = H ∧ ∃ (b : Int) (v : Option V), σ = [some (.int links), some (.ref a), v] ∧ i ≤ os.length ∧ risesB links (-1) os = risesB links b (os.drop i) ∧ -1 ≤ b ∧ (i = 0 ∧ b = -1 ∨ (0 < i ∧ 0 ≤ b ∧ os[i - 1]? = some b))) ?_ ?_ ?_
    · exact ⟨rfl, -1, none, rfl, Nat.zero_le _, rfl, by decide, .inl ⟨rfl, rfl⟩⟩
    · rintro i σ H' hi ⟨rfl, b, v, rfl, hil, hb, hb1, hcase⟩
      rw [List.length_map] at hi
      have hlt : i < os.length := by omega
      obtain ⟨z, hz⟩ : ∃ z, os[i]? = some z := ⟨_, List.getElem?_eq_getElem hlt⟩
      have ed : os.drop i = z :: os.drop (i + 1) := by rw [List.drop_eq_getElem_cons hlt, (List.getElem?_eq_some_iff.mp hz).2]
      rw [ed, risesB] at hb
      have at1 : atI (os.map V.int) (0 + (i : Int)) = some (.int z) := by
        rw [Int.zero_add]
        exact atI_nat (by rw [List.getElem?_map, hz]; rfl)
      have no : ¬ (b < z ∧ z < links) → risesB links (-1) os = false := fun n => by rw [if_neg n] at hb; exact hb
      have bad : ¬ (b < z ∧ z < links) → Q (.bl false) H' := fun n => by
        have := q
        rw [no n] at this
        exact this
      refine ⟨_, rfl, _, rfl, a, _, _, .int z, rfl, rfl, hS, at1, _, _, rfl, rfl, _, rfl, ite2D (fun k1 => ?_) (fun k1 => ?_)⟩
      · refine ⟨_, rfl, _, _, rfl, rfl, _, rfl, ite2N (fun k2 => bad (fun y => k2 y.2)) (fun k2 => ?_)⟩
        refine ⟨_, rfl, _, _, rfl, rfl, _, rfl, ite2D (fun k3 => ?_) (fun k3 => ?_)⟩
        · rcases hcase with ⟨z0, _⟩ | ⟨i0, b0, hp⟩
          · omega
          · have at0 : atI (os.map V.int) (0 + (i : Int) - 1) = some (.int b) := by
              have e : (0 + (i : Int) - 1) = ((i - 1 : Nat) : Int) := by omega
              rw [e]
              exact atI_nat (by rw [List.getElem?_map, hp]; rfl)
            refine ⟨_, rfl, _, rfl, _, _, rfl, rfl, a, _, _, .int b, rfl, rfl, hS, at0, _, rfl, _, rfl, a, _, _, .int z, rfl, rfl, hS, at1, _, _, rfl, rfl, _, rfl, ite2D (fun k4 => bad (fun y => by omega)) (fun k4 => ?_)⟩
            rw [if_pos ⟨by omega, k2⟩] at hb
            exact ⟨rfl, z, _, rfl, by omega, hb, by omega, .inr ⟨by omega, k1, by simpa using hz⟩⟩
        · rcases hcase with ⟨z0, eb⟩ | ⟨i0, b0, hp⟩
          · rw [if_pos ⟨by omega, k2⟩] at hb
            exact ⟨rfl, z, _, rfl, by omega, hb, by omega, .inr ⟨by omega, k1, by simpa using hz⟩⟩
          · omega
      · exact ⟨_, rfl, iteT (bad (fun y => by omega))⟩
    · rintro σ H' ⟨rfl, b, v, rfl, hil, hb, _⟩
      rw [List.length_map] at hb
      have e : os.drop ((os.length : Nat) : Int).toNat = [] := by
        rw [List.drop_eq_nil_iff]
        omega
      rw [e] at hb
      rw [hb] at q
      exact q
/-! _law_called -/
abbrev InR (links : Int) : Prop := 1 ≤ links ∧ links ≤ 10 ^ 30
def Rf (wh links : Int) (os : List Int) (i : Nat) : Prop := (¬ InR links ∧ i = 0) ∨ (InR links ∧ ¬ GoodR links os ∧ i = 1) ∨ (InR links ∧ GoodR links os ∧ 2 ≤ wh ∧ (i = 2 ∨ i = 3 ∨ i = 6))
structure Asked (K : PySem.W.Frag) (H : Hp) (wh links : Int) (a : Addr) (os : List Int) : Prop where
  sa : SqL K H a (os.map V.int)
  l0 : -(10 ^ 40) ≤ links
  l1 : links ≤ 10 ^ 40
  w0 : 0 ≤ wh
  w6 : wh ≤ 6
  gap : InR links → GoodR links os → os.length ≤ 30 ∨ (sizesP links os).Pairwise (· ≤ ·)
def spCalled (K : PySem.W.Frag) (C : Nat → Addr) : Sp := fun vs H Q E => ∃ (wh links : Int) (a : Addr) (os : List Int), vs = [.int wh, .int links, .ref a] ∧ Asked K H wh links a os ∧
  ∀ H', Same H H' → (∀ i, Rf wh links os i → E (.ref (C i)) none H') ∧ (InR links → GoodR links os → Q .non H')
theorem sc__law_called : FnScope ["which", "links", "opened"] ["which", "links", "opened"] (defScope s__law_called) := ⟨rfl, rfl, rfl, by decide +kernel, rfl, by decide +kernel, by decide +kernel⟩
theorem badR_of {mg : Str → Option Value} {C : Nat → Addr} {cp : Addr} (N7 : Cls7 mg C cp) {wh links : Int} {os : List Int} {E : XK} {H : Hp} (hn : ¬ (InR links ∧ GoodR links os)) (q : ∀ i, Rf wh links os i → E (.ref (C i)) none H) : BadR mg links os E H := by
  by_cases h : InR links
  · refine .inr ⟨h, fun z => hn ⟨h, z⟩, fun c hc => ?_⟩
    have ec := N7.n1.symm.trans hc
    cases ec
    exact q 1 (.inr (.inl ⟨h, fun z => hn ⟨h, z⟩, rfl⟩))
  · refine .inl ⟨h, fun c hc => ?_⟩
    have ec := N7.n0.symm.trans hc
    cases ec
    exact q 0 (.inl ⟨h, rfl⟩)
theorem badA_of {mg : Str → Option Value} {C : Nat → Addr} {cp : Addr} (N7 : Cls7 mg C cp) {wh links : Int} {os : List Int} {E : XK} {H : Hp} (h1 : InR links) (h2 : GoodR links os) (hw : 2 ≤ wh) (q : ∀ i, Rf wh links os i → E (.ref (C i)) none H) : BadA mg links (-1) os E H := by
  by_cases h8 : os.length ≤ 8
  · refine .inr ⟨h8, fun z => by omega, fun c hc => ?_⟩
    have ec := N7.n3.symm.trans hc
    cases ec
    exact q 3 (.inr (.inr ⟨h1, h2, hw, .inr (.inl rfl)⟩))
  · refine .inl ⟨by omega, fun c hc => ?_⟩
    have ec := N7.n2.symm.trans hc
    cases ec
    exact q 2 (.inr (.inr ⟨h1, h2, hw, .inl rfl⟩))
theorem rowOk_of {links : Int} {os : List Int} (h1 : InR links) (h2 : GoodR links os) : RowOk links os 100 := by
  obtain ⟨a, b⟩ := of_risesB h2.2
  exact ⟨h1.1, h1.2, a, fun x hx => by have := b x hx; omega, h2.1⟩
theorem okX__law_called (D : Df K mg "_law_called" ["which", "links", "opened"] s__law_called) {C : Nat → Addr} {cp : Addr} (N7 : Cls7 mg C cp)
    (C0 : Cal P w K mg base CX0 3 "pieces" ["links", "opened"] (spPieces K)) (R0 : Cal P w K mg base (CXE P w) 3 "pieces" ["links", "opened"] (spBadR K mg))
    (C1 : Cal P w K mg base CX0 5 "gap" ["links", "opened"] (spGap K)) (R1 : Cal P w K mg base (CXE P w) 5 "gap" ["links", "opened"] (spBadR K mg))
    (C2 : Cal P w K mg base (CXE P w) 5 "payment" ["links", "opened", "amount"] (spBadA K mg)) (R2 : Cal P w K mg base (CXE P w) 5 "payment" ["links", "opened", "amount"] (spBadR3 K mg))
    (C3 : Cal P w K mg base (CXE P w) 7 "step" ["links", "opened", "held"] (spStep K mg)) (R3 : Cal P w K mg base (CXE P w) 7 "step" ["links", "opened", "held"] (spBadR3 K mg))
    (C4 : Cal P w K mg base (CXE P w) 6 "payable" ["links", "opened", "amount"] (spBadA K mg)) (R4 : Cal P w K mg base (CXE P w) 6 "payable" ["links", "opened", "amount"] (spBadR3 K mg))
    (C5 : Cal P w K mg base (CXE P w) 5 "ways" ["links", "opened", "amount"] (spBadA K mg)) (R5 : Cal P w K mg base (CXE P w) 5 "ways" ["links", "opened", "amount"] (spBadR3 K mg))
    (C6 : Cal P w K mg base (CXE P w) 3 "shown" ["links", "opened"] (spShownX K mg)) (R6 : Cal P w K mg base (CXE P w) 3 "shown" ["links", "opened"] (spBadR K mg)) :
    Cal P w K mg base (CXE P w) 8 "_law_called" ["which", "links", "opened"] (spCalled K C) := by
  have S := sc__law_called
  have M0 := (C0.up (CX := CXE P w)).or R0
  have M1 := (C1.up (CX := CXE P w)).or R1
  have M2 := C2.or R2
  have M3 := C3.or R3
  have M4 := C4.or R4
  have M5 := C5.or R5
  have M6 := C6.or R6
  refine D.okE S (fun vs H Q E h => ?_) (fun f cdv A outer s H vs Q E hr h => ?_)
  · obtain ⟨_, _, _, _, rfl, _⟩ := h
    rfl
  · obtain ⟨wh, links, a, os, rfl, A0, q⟩ := h
    have hr6 : Room 6 _ := hr.mono (by decide)
    have hr5 : Room 5 _ := hr.mono (by decide)
    have hr3 : Room 3 _ := hr.mono (by decide)
    refine ⟨_, pss_one (ps_if (pt_cmpR op_eq (pv 0) pe_int (nomark _)) (pss_one (ps_expr (pe_calE M0 throws_cx hr3 rfl (pa_cons (pv 1) (pa_cons (pv 2) pa_nil)))))
      (pss_one (ps_if (pt_cmpR op_eq (pv 0) pe_int (nomark _)) (pss_one (ps_expr (pe_calE M1 throws_cx hr5 rfl (pa_cons (pv 1) (pa_cons (pv 2) pa_nil)))))
      (pss_one (ps_if (pt_cmpR op_eq (pv 0) pe_int (nomark _)) (pss_one (ps_expr (pe_calE M2 throws_cx hr5 rfl (pa_cons (pv 1) (pa_cons (pv 2) (pa_cons (pe_un un_neg pe_int) pa_nil))))))
      (pss_one (ps_if (pt_cmpR op_eq (pv 0) pe_int (nomark _)) (pss_one (ps_expr (pe_calE M3 throws_cx hr rfl (pa_cons (pv 1) (pa_cons (pv 2) (pa_cons (pe_lst (pa_cons (pe_un un_neg pe_int) pa_nil)) pa_nil))))))
      (pss_one (ps_if (pt_cmpR op_eq (pv 0) pe_int (nomark _)) (pss_one (ps_expr (pe_calE M4 throws_cx hr6 rfl (pa_cons (pv 1) (pa_cons (pv 2) (pa_cons (pe_un un_neg pe_int) pa_nil))))))
      (pss_one (ps_if (pt_cmpR op_eq (pv 0) pe_int (nomark _)) (pss_one (ps_expr (pe_calE M5 throws_cx hr5 rfl (pa_cons (pv 1) (pa_cons (pv 2) (pa_cons (pe_un un_neg pe_int) pa_nil))))))
      (pss_one (ps_expr (pe_calE M6 throws_cx hr3 rfl (pa_cons (pv 1) (pa_cons (pv 2) pa_nil)))))))))))))))), ?_⟩
    have sm0 : Same H H := fun _ _ z => z
    have q0 := (q H sm0).1
    by_cases g : InR links ∧ GoodR links os
    · obtain ⟨g1, g2⟩ := g
      have R := rowOk_of g1 g2
      have lo := R.lo
      have hi := R.hi
      have okq : ∀ H', Same H H' → Q .non H' := fun H' s' => (q H' s').2 g1 g2
      have hc : wh = 0 ∨ wh = 1 ∨ wh = 2 ∨ wh = 3 ∨ wh = 4 ∨ wh = 5 ∨ wh = 6 := by have := A0.w0; have := A0.w6; omega
      rcases hc with rfl | rfl | rfl | rfl | rfl | rfl | rfl
      · exact ⟨_, rfl, rfl, _, rfl, iteD rfl ⟨_, rfl, _, rfl, .inl ⟨links, a, os, rfl, A0.sa, R, fun p vs' H' _ G => okq H' G.same⟩⟩⟩
      · exact ⟨_, rfl, rfl, _, rfl, iteDn (by decide) ⟨_, rfl, rfl, _, rfl, iteD rfl ⟨_, rfl, _, rfl, .inl ⟨links, a, os, rfl, A0.sa, R, A0.gap g1 g2, fun ys H' s' _ _ => okq H' s'⟩⟩⟩⟩
      · exact ⟨_, rfl, rfl, _, rfl, iteDn (by decide) ⟨_, rfl, rfl, _, rfl, iteDn (by decide) ⟨_, rfl, rfl, _, rfl, iteD rfl ⟨_, rfl, _, rfl, _, rfl, .inl ⟨links, a, os, -1, rfl, A0.sa, R, by decide, by decide, badA_of N7 g1 g2 (by decide) q0⟩⟩⟩⟩⟩
      · refine ⟨_, rfl, rfl, _, rfl, iteDn (by decide) ⟨_, rfl, rfl, _, rfl, iteDn (by decide) ⟨_, rfl, rfl, _, rfl, iteDn (by decide) ⟨_, rfl, rfl, _, rfl, iteD rfl ⟨_, rfl, _, rfl, _, rfl, by show 1 ≤ sizeLine; decide, fun l hl => ?_⟩⟩⟩⟩⟩
        have sl := same_new hl (.lst [V.int (-1)])
        have hneg : ∀ e : Int, risesB e (-1) [-1] = false := fun e => by rw [risesB, if_neg (by omega)]
        refine .inl ⟨links, a, l, os, [-1], rfl, sl.seq A0.sa, SqL.of upd_same, R, by decide, fun h8 c hc => ?_, fun h8 _ c hc H' s' => ?_, fun _ z => ?_, fun _ z => ?_⟩
        · have ec := N7.n2.symm.trans hc
          cases ec
          exact (q _ sl).1 2 (.inr (.inr ⟨g1, g2, by decide, .inl rfl⟩))
        · have ec := N7.n3.symm.trans hc
          cases ec
          exact (q H' (sl.trans s')).1 3 (.inr (.inr ⟨g1, g2, by decide, .inr (.inl rfl)⟩))
        · rw [hneg] at z; cases z
        · rw [hneg] at z; cases z
      · exact ⟨_, rfl, rfl, _, rfl, iteDn (by decide) ⟨_, rfl, rfl, _, rfl, iteDn (by decide) ⟨_, rfl, rfl, _, rfl, iteDn (by decide) ⟨_, rfl, rfl, _, rfl, iteDn (by decide) ⟨_, rfl, rfl, _, rfl, iteD rfl ⟨_, rfl, _, rfl, _, rfl, .inl ⟨links, a, os, -1, rfl, A0.sa, R, by decide, by decide, badA_of N7 g1 g2 (by decide) q0⟩⟩⟩⟩⟩⟩⟩
      · exact ⟨_, rfl, rfl, _, rfl, iteDn (by decide) ⟨_, rfl, rfl, _, rfl, iteDn (by decide) ⟨_, rfl, rfl, _, rfl, iteDn (by decide) ⟨_, rfl, rfl, _, rfl, iteDn (by decide) ⟨_, rfl, rfl, _, rfl, iteDn (by decide) ⟨_, rfl, rfl, _, rfl, iteD rfl ⟨_, rfl, _, rfl, _, rfl, .inl ⟨links, a, os, -1, rfl, A0.sa, R, by decide, by decide, badA_of N7 g1 g2 (by decide) q0⟩⟩⟩⟩⟩⟩⟩⟩
      · refine ⟨_, rfl, rfl, _, rfl, iteDn (by decide) ⟨_, rfl, rfl, _, rfl, iteDn (by decide) ⟨_, rfl, rfl, _, rfl, iteDn (by decide) ⟨_, rfl, rfl, _, rfl, iteDn (by decide) ⟨_, rfl, rfl, _, rfl, iteDn (by decide) ⟨_, rfl, rfl, _, rfl, iteDn (by decide) ⟨_, rfl, _, rfl, .inl ⟨links, a, os, rfl, A0.sa, R, fun _ H' s' => okq H' s', fun _ c hc => ?_⟩⟩⟩⟩⟩⟩⟩⟩
        have ec := N7.n6.symm.trans hc
        cases ec
        exact q0 6 (.inr (.inr ⟨g1, g2, by decide, .inr (.inr rfl)⟩))
    · have bad := badR_of N7 g q0
      refine ⟨_, rfl, rfl, _, rfl, ite2D (fun _ => ⟨_, rfl, _, rfl, .inr ⟨links, a, os, rfl, A0.sa, A0.l0, A0.l1, bad⟩⟩) (fun _ => ?_)⟩
      refine ⟨_, rfl, rfl, _, rfl, ite2D (fun _ => ⟨_, rfl, _, rfl, .inr ⟨links, a, os, rfl, A0.sa, A0.l0, A0.l1, bad⟩⟩) (fun _ => ?_)⟩
      refine ⟨_, rfl, rfl, _, rfl, ite2D (fun _ => ⟨_, rfl, _, rfl, _, rfl, .inr ⟨links, a, os, _, rfl, A0.sa, A0.l0, A0.l1, bad⟩⟩) (fun _ => ?_)⟩
      refine ⟨_, rfl, rfl, _, rfl, ite2D (fun _ => ⟨_, rfl, _, rfl, _, rfl, by show 1 ≤ sizeLine; decide, fun l hl => ?_⟩) (fun _ => ?_)⟩
      · have sl := same_new hl (.lst [V.int (-1)])
        exact .inr ⟨links, a, os, _, rfl, sl.seq A0.sa, A0.l0, A0.l1, badR_of N7 g (q _ sl).1⟩
      refine ⟨_, rfl, rfl, _, rfl, ite2D (fun _ => ⟨_, rfl, _, rfl, _, rfl, .inr ⟨links, a, os, _, rfl, A0.sa, A0.l0, A0.l1, bad⟩⟩) (fun _ => ?_)⟩
      refine ⟨_, rfl, rfl, _, rfl, ite2D (fun _ => ⟨_, rfl, _, rfl, _, rfl, .inr ⟨links, a, os, _, rfl, A0.sa, A0.l0, A0.l1, bad⟩⟩) (fun _ => ?_)⟩
      exact ⟨_, rfl, _, rfl, .inr ⟨links, a, os, rfl, A0.sa, A0.l0, A0.l1, bad⟩⟩
/-! _law_told -/
def toldN (i : Nat) : Int := if i = 0 then 1 else if i = 1 then 2 else 3
def spTold (K : PySem.W.Frag) : Sp := fun vs H Q _ => ∃ (wh links : Int) (a : Addr) (os : List Int), vs = [.int wh, .int links, .ref a] ∧ Asked K H wh links a os ∧
  ∀ H', Same H H' → (∀ i, Rf wh links os i → Q (.int (toldN i)) H') ∧ (InR links → GoodR links os → Q (.int 0) H')
theorem sc__law_told : FnScope ["which", "links", "opened", "e"] ["which", "links", "opened"] (defScope s__law_told) := ⟨rfl, rfl, rfl, by decide +kernel, rfl, by decide +kernel, by decide +kernel⟩
theorem ok__law_told (D : Df K mg "_law_told" ["which", "links", "opened"] s__law_told) (B : Bl mg) {C : Nat → Addr} {cp : Addr} (N7 : Cls7 mg C cp) (R0 : Rz K C cp 0) (R1 : Rz K C cp 1) (R2 : Rz K C cp 2) (R3 : Rz K C cp 3) (R6 : Rz K C cp 6)
    (C1 : Cal P w K mg base (CXE P w) 8 "_law_called" ["which", "links", "opened"] (spCalled K C)) (C5 : CalH P w K mg base 1 "_law_other" ["e", "wanted"] (spOther K C cp)) : Cal P w K mg base CX0 9 "_law_told" ["which", "links", "opened"] (spTold K) := by
  have S := sc__law_told
  refine D.ok S (fun vs H Q E h => ?_) (fun f cdv A outer s H vs Q E hr h => ?_)
  · obtain ⟨_, _, _, _, rfl, _⟩ := h
    rfl
  · obtain ⟨wh, links, a, os, rfl, A0, q⟩ := h
    have hr1 : Room 1 _ := hr.mono (by decide)
    have hR : ∀ i, Rf wh links os i → Rz K C cp i ∧ i < 7 := fun i hi => by
      rcases hi with ⟨_, rfl⟩ | ⟨_, _, rfl⟩ | ⟨_, _, _, rfl | rfl | rfl⟩
      · exact ⟨R0, by decide⟩
      · exact ⟨R1, by decide⟩
      · exact ⟨R2, by decide⟩
      · exact ⟨R3, by decide⟩
      · exact ⟨R6, by decide⟩
    refine ⟨_, pss_cons (ps_try (i := 3) (C0 := cp) rfl S.nd rfl rfl N7.np rfl
        (fun pins D xe Th => pss_one (ps_expr (pe_calE C1 Th hr rfl (pa_cons (pv 0) (pa_cons (pv 1) (pa_cons (pv 2) pa_nil))))))
        (fun e oe pn hpn => pss_cons (ps_if (pt_not (pt_val (pe_calH C5 ⟨rfl, hpn⟩ hr1.toH rfl (pa_cons (pv 3) (pa_cons pe_int pa_nil))))) (pss_one (ps_ret pe_int)) pss_nil)
          (pss_one (ps_ret (pe_op op_add pe_int (pe_callTy call_int1 rfl B.n_int bb_int (pa_cons (pe_calH C5 ⟨rfl, hpn⟩ hr1.toH rfl (pa_cons (pv 3) (pa_cons pe_int pa_nil))) pa_nil)))))))
      (pss_one (ps_ret pe_int)), ?_⟩
    refine ⟨_, rfl, _, rfl, _, rfl, wh, links, a, os, rfl, A0, fun H' s' => ⟨fun i hi => ?_, fun g1 g2 => (q H' s').2 g1 g2⟩⟩
    obtain ⟨Rz', h7⟩ := hR i hi
    refine ⟨Rz'.exm, fun e oe hH hcl hx => ?_⟩
    refine ⟨_, rfl, hx, i, 0, rfl, h7, hcl, Rz', fun H2 s2 => ⟨_, rfl, ?_⟩⟩
    by_cases c : (0 : Int) = (i : Int)
    · rw [decide_eq_true c]
      have e : toldN i = 1 := by unfold toldN; rw [if_pos (by omega)]
      have := (q H2 (s'.trans s2)).1 i hi
      rw [e] at this
      exact iteT this
    · rw [decide_eq_false c]
      refine iteF ?_
      refine ⟨_, rfl, hx, i, 1, rfl, h7, hcl, Rz', fun H3 s3 => .inr ⟨_, rfl, ?_⟩⟩
      refine ⟨_, _, rfl, rfl, ?_⟩
      have := (q H3 (s'.trans (s2.trans s3))).1 i hi
      by_cases c1 : (1 : Int) = (i : Int)
      · have e : toldN i = 2 := by unfold toldN; rw [if_neg (by omega), if_pos (by omega)]
        rw [e] at this
        rw [decide_eq_true c1]
        exact this
      · have e : toldN i = 3 := by unfold toldN; rw [if_neg (by omega), if_neg (by omega)]
        rw [e] at this
        rw [decide_eq_false c1]
        exact this
/-! law (point 2) -/
theorem many_sorted {n : Nat} (h1 : 98 ≤ n) (h2 : n ≤ 100) : (sizesP 200 (rngI n)).Pairwise (· ≤ ·) := by
  rcases (show n = 98 ∨ n = 99 ∨ n = 100 by omega) with rfl | rfl | rfl
  · decide +kernel
  · decide +kernel
  · decide +kernel
theorem rngI_len (n : Nat) : (rngI n).length = n := by
  unfold rngI
  rw [List.length_map, List.length_range']
theorem spoilt_gap {links : Int} {os : List Int} (h : Spoilt links os) (g : GoodR links os) : os.length ≤ 30 ∨ (sizesP links os).Pairwise (· ≤ ·) := by
  rcases h with h | ⟨rfl, n, h1, h2, rfl⟩
  · exact .inl (by omega)
  · have := g.1
    rw [rngI_len] at this
    exact .inr (many_sorted h1 this)
theorem spoilt_len {links : Int} {os : List Int} (h : Spoilt links os) : os.length ≤ 900 := by
  rcases h with h | ⟨rfl, n, h1, h2, rfl⟩
  · omega
  · rw [rngI_len]; omega
theorem goodB_iff {links : Int} {os : List Int} : goodB links os = true ↔ GoodR links os := by
  unfold goodB GoodR
  rw [Bool.and_eq_true, decide_eq_true_iff]
def dueR (links : Int) (os : List Int) : Int := if ¬ (1 ≤ links ∧ links ≤ 10 ^ 30) then 1 else if goodB links os = true then 0 else 2
theorem due_told {wh links : Int} {os : List Int} {i : Nat} (h : Rf wh links os i) (hd : 0 < dueR links os ∨ wh < 2) : toldN i = dueR links os := by
  unfold dueR at *
  rcases h with ⟨h1, rfl⟩ | ⟨h1, h2, rfl⟩ | ⟨h1, h2, h3, _⟩
  · rw [if_pos h1]
    rfl
  · rw [if_neg (fun z => z h1), if_neg (fun z => h2 (goodB_iff.mp z))]
    rfl
  · rw [if_neg (fun z => z h1), if_pos (goodB_iff.mpr h2)] at hd
    omega
theorem due_ok {links : Int} {os : List Int} (h1 : InR links) (h2 : GoodR links os) : dueR links os = 0 := by
  unfold dueR
  rw [if_neg (fun z => z h1), if_pos (goodB_iff.mpr h2)]
def spLaw (K : PySem.W.Frag) : Sp := fun vs H Q _ => ∃ (a : Addr) (ns : List Int), vs = [.ref a] ∧ SqL K H a (ns.map V.int) ∧ ns.length ≤ 63 ∧ ∀ H', Q (.bl true) H'
theorem sc_law : FnScope ["script", "links", "opened", "due", "handed", "which", "found"] ["script"] (defScope s_law) := ⟨rfl, rfl, rfl, by decide +kernel, rfl, by decide +kernel, by decide +kernel⟩
theorem ok_law (D : Df K mg "law" ["script"] s_law) (B : Bl mg) (C1 : Cal P w K mg base CX0 2 "_law_row_by" ["script", "most"] (spRowBy K)) (C2 : Cal P w K mg base CX0 1 "_law_spoilt" ["links", "opened", "how", "cell"] (spSpoilt K))
    (C3 : Cal P w K mg base CX0 1 "_law_cell_at" ["script", "k"] (spCell K)) (C4 : Cal P w K mg base CX0 1 "_law_next" ["seed"] spNext) (C5 : Cal P w K mg base CX0 1 "_law_good" ["links", "opened"] (spGood K))
    (C6 : Cal P w K mg base CX0 9 "_law_told" ["which", "links", "opened"] (spTold K)) : Cal P w K mg base CX0 10 "law" ["script"] (spLaw K) := by
  have S := sc_law
  refine D.ok S (fun vs H Q E h => ?_) (fun f cdv A outer s H vs Q E hr h => ?_)
  · obtain ⟨a, ns, rfl, _⟩ := h
    rfl
  · obtain ⟨a, ns, rfl, hS, h63, q⟩ := h
    have hu := hr.units
    have hr2 : Room 2 _ := hr.mono (by decide)
    have hr1 : Room 1 _ := hr.mono (by decide)
    refine ⟨_, pss_cons (ps_asg (pe_calf C1 hr2 rfl (pa_cons (pv 0) (pa_cons pe_int pa_nil))) (pg_tup rfl (pgs_cons (pg_name (i := 1) S.nd rfl (Or.inl rfl)) (pgs_cons (pg_name (i := 2) S.nd rfl (Or.inl rfl)) pgs_nil))))
      (pss_cons (ps_asg (pe_calf C2 hr1 rfl (pa_cons (pv 1) (pa_cons (pv 2) (pa_cons (pe_op op_mod (pe_calf C3 hr1 rfl (pa_cons (pv 0) (pa_cons pe_int pa_nil))) pe_int) (pa_cons (pe_calf C4 hr1 rfl (pa_cons (pe_calf C3 hr1 rfl (pa_cons (pv 0) (pa_cons pe_int pa_nil))) pa_nil)) pa_nil)))))
        (pg_tup rfl (pgs_cons (pg_name (i := 1) S.nd rfl (Or.inl rfl)) (pgs_cons (pg_name (i := 2) S.nd rfl (Or.inl rfl)) pgs_nil))))
      (pss_cons (ps_set (i := 3) S.nd rfl (Or.inl rfl) pe_int)
      (pss_cons (ps_cut (ps_if (pt_not (pt_chain op_le op_le pe_int (pv 1) (pe_op op_pow pe_int pe_int))) (pss_one (ps_set (i := 3) S.nd rfl (Or.inl rfl) pe_int))
        (pss_one (ps_if (pt_not (pt_val (pe_calf C5 hr1 rfl (pa_cons (pv 1) (pa_cons (pv 2) pa_nil))))) (pss_one (ps_set (i := 3) S.nd rfl (Or.inl rfl) pe_int)) pss_nil))))
      (pss_cons (ps_set (i := 4) S.nd rfl (Or.inl rfl) (pe_callTy call_list_of rfl B.n_list bb_list (pa_cons (pv 2) pa_nil)))
      (pss_cons (ps_for PassesOwn.never rfl (pi_range1 rfl B.n_range (pa_cons pe_int pa_nil)) (pg_name (i := 5) S.nd rfl (Or.inl rfl))
        (pss_cons (ps_set (i := 6) S.nd rfl (Or.inl rfl) (pe_calf C6 hr rfl (pa_cons (pv 5) (pa_cons (pv 1) (pa_cons (pv 4) pa_nil)))))
        (pss_one (ps_if (pt_or2 (pt_cmpR (op_neD hu) (pv 4) (pv 2) (nomark _)) (pt_and2 (pt_or2 (pt_cmpR op_gt (pv 3) pe_int (nomark _)) (pt_cmpR op_lt (pv 5) pe_int (nomark _))) (pt_cmpR op_ne (pv 6) (pv 3) (nomark _)))) (pss_one (ps_ret pe_bl)) pss_nil))))
      (pss_one (ps_ret pe_bl))))))), ?_⟩
    -- links, opened
    refine ⟨_, rfl, a, ns, 12, rfl, hS, by decide, by decide, fun p o L0 os0 H1 s1 ho hp hO R0 => ?_⟩
    refine ⟨p, _, rfl, SqT.of hp, rfl, _, _, rfl, _, _, rfl, rfl, ?_⟩
    -- spoilt
    have hS1 := s1.seq hS
    refine ⟨_, rfl, _, rfl, _, rfl, a, ns, 20, rfl, hS1, by decide, _, _, rfl, rfl, (by show (0 : Int) < 8; decide), _, rfl, a, ns, 21, rfl, hS1, by decide, _, rfl, ?_⟩
    refine ⟨L0, o, os0, _, _, rfl, hO, R0, Int.emod_nonneg _ (by decide), fun p2 o2 L os H2 s2 hp2 hO2 l0 l1 sp => ?_⟩
    refine ⟨p2, _, rfl, SqT.of hp2, rfl, _, _, rfl, _, _, rfl, rfl, ?_⟩
    -- due
    refine ⟨fun σ3 H3 => H3 = H2 ∧ σ3 = [some (.ref a), some (.int L), some (.ref o2), some (.int (dueR L os)), none, none, none], ?_, ?_⟩
    · refine ⟨_, rfl, _, _, rfl, rfl, _, rfl, ite2D (fun k1 => ?_) (fun k1 => ?_)⟩
      · refine ⟨_, _, rfl, rfl, ⟨by decide, by decide, by decide⟩, _, _, rfl, rfl, _, rfl, ite2N (fun k2 => ?_) (fun k2 => ?_)⟩
        · refine ⟨rfl, ?_⟩
          unfold dueR
          rw [if_pos (fun z => k2 z.2)]
          rfl
        · refine ⟨_, rfl, _, rfl, L, o2, os, rfl, SqL.of hO2, spoilt_len sp, _, rfl, ?_⟩
          cases e : goodB L os with
          | false =>
            refine iteT ⟨rfl, ?_⟩
            unfold dueR
            rw [if_neg (fun z => z ⟨k1, k2⟩), e]
            rfl
          | true =>
            refine iteF ⟨rfl, ?_⟩
            unfold dueR
            rw [if_neg (fun z => z ⟨k1, k2⟩), e]
            rfl
      · refine ⟨_, rfl, iteT ⟨rfl, ?_⟩⟩
        unfold dueR
        rw [if_pos (fun z => k1 z.1)]
        rfl
    rintro σ3 H3 ⟨rfl, rfl⟩
    -- handed
    refine ⟨_, rfl, o2, _, rfl, .inl (SqL.of hO2), fun h hh => ?_⟩
    have sh := same_new hh (.lst (os.map V.int))
    refine ⟨7, rfl, by decide, by decide, ?_⟩
    refine for_range (lo := 0) (n := 7) (fun i σ H' => ∃ v5 v6 : Option V, σ = [some (.ref a), some (.int L), some (.ref o2), some (.int (dueR L os)), some (.ref h), v5, v6] ∧ H' o2 = some (.lst (os.map V.int)) ∧ H' h = some (.lst (os.map V.int))) ?_ ?_ ?_
    · exact ⟨none, none, rfl, sh _ _ hO2, upd_same⟩
    · rintro i σ H' hi ⟨v5, v6, rfl, hO3, hh3⟩
      have A0 : Asked K H' (0 + (i : Int)) L h os := ⟨SqL.of hh3, l0, l1, by omega, by omega, fun _ g => spoilt_gap sp g⟩
      refine ⟨_, rfl, _, rfl, _, rfl, 0 + (i : Int), L, h, os, rfl, A0, fun H4 s4 => ⟨fun j hj => ?_, fun g1 g2 => ?_⟩⟩
      · have hfd : 0 < dueR L os ∨ (0 + (i : Int)) < 2 → toldN j = dueR L os := fun z => due_told hj z
        refine ⟨_, rfl, _, rfl, _, _, .lst (SqL.of (s4 _ _ hh3)) (dvs_ints os), .lst (SqL.of (s4 _ _ hO3)) (dvs_ints os), shaped_ints _, shaped_ints _, _, rfl, ?_⟩
        rw [eqv_ints]
        refine iteF ?_
        refine ⟨_, rfl, _, _, rfl, rfl, _, rfl, ite2D (fun c => ?_) (fun c => ?_)⟩
        · exact ⟨_, rfl, _, rfl, rfl, _, rfl, iteNS (congrArg V.int (hfd (.inl c))) ⟨_, _, rfl, s4 _ _ hO3, s4 _ _ hh3⟩⟩
        · refine ⟨_, rfl, _, _, rfl, rfl, _, rfl, ite2D (fun c2 => ?_) (fun c2 => ?_)⟩
          · exact ⟨_, rfl, _, rfl, rfl, _, rfl, iteNS (congrArg V.int (hfd (.inr c2))) ⟨_, _, rfl, s4 _ _ hO3, s4 _ _ hh3⟩⟩
          · exact ⟨_, _, rfl, s4 _ _ hO3, s4 _ _ hh3⟩
      · have hfd : 0 < dueR L os ∨ (0 + (i : Int)) < 2 → (0 : Int) = dueR L os := fun _ => (due_ok g1 g2).symm
        refine ⟨_, rfl, _, rfl, _, _, .lst (SqL.of (s4 _ _ hh3)) (dvs_ints os), .lst (SqL.of (s4 _ _ hO3)) (dvs_ints os), shaped_ints _, shaped_ints _, _, rfl, ?_⟩
        rw [eqv_ints]
        refine iteF ?_
        refine ⟨_, rfl, _, _, rfl, rfl, _, rfl, ite2D (fun c => ?_) (fun c => ?_)⟩
        · exact ⟨_, rfl, _, rfl, rfl, _, rfl, iteNS (congrArg V.int (hfd (.inl c))) ⟨_, _, rfl, s4 _ _ hO3, s4 _ _ hh3⟩⟩
        · refine ⟨_, rfl, _, _, rfl, rfl, _, rfl, ite2D (fun c2 => ?_) (fun c2 => ?_)⟩
          · exact ⟨_, rfl, _, rfl, rfl, _, rfl, iteNS (congrArg V.int (hfd (.inr c2))) ⟨_, _, rfl, s4 _ _ hO3, s4 _ _ hh3⟩⟩
          · exact ⟨_, _, rfl, s4 _ _ hO3, s4 _ _ hh3⟩
    · rintro σ H' _
      exact q _
end
theorem all_mk {l : PySem.W.OpenLaw} {w : World} {K : PySem.W.Frag} {h : Heap} {mg : Str → Option Value} {fa f1 f2 f3 f4 f5 f6 f7 f8 f10 f11 f12 f13 f14 f15 f16 f17 f18 f19 f20 f21 f22 f23 f24 f25 f26 : Addr} (X : K.In h) (G : h.Ns mainGlobals mg) (hfa : mg "law" = some (.ref fa))
    {od1 od2 od3 od4 od5 od6 od7 od8 od10 od11 od12 od13 od14 od15 od16 od17 od18 od19 od20 od21 od22 od23 od24 od25 od26 an1 an2 an3 an4 an5 an6 an7 an8 an10 an11 an12 an13 an14 an15 an16 an17 an18 an19 an20 an21 an22 an23 an24 an25 an26 : Option Addr} {sl1 sl2 sl3 sl4 sl5 sl6 sl7 sl8 sl10 sl11 sl12 sl13 sl14 sl15 sl16 sl17 sl18 sl19 sl20 sl21 sl22 sl23 sl24 sl25 sl26 : Array (Option Value)} {oc1 oc2 oc3 oc4 oc5 oc6 oc7 oc8 oc10 oc11 oc12 oc13 oc14 oc15 oc16 oc17 oc18 oc19 oc20 oc21 oc22 oc23 oc24 oc25 oc26 kV1 kV2 kV3 kV4 kV5 kV6 kV7 kV8 kV10 kV11 kV12 kV13 kV14 kV15 kV16 kV17 kV18 kV19 kV20 kV21 kV22 kV23 kV24 kV25 kV26 dc1 dc2 dc3 dc4 dc5 dc6 dc7 dc8 dc10 dc11 dc12 dc13 dc14 dc15 dc16 dc17 dc18 dc19 dc20 dc21 dc22 dc23 dc24 dc25 dc26 pm1 pm2 pm3 pm4 pm5 pm6 pm7 pm8 pm10 pm11 pm12 pm13 pm14 pm15 pm16 pm17 pm18 pm19 pm20 pm21 pm22 pm23 pm24 pm25 pm26 cd1 cd2 cd3 cd4 cd5 cd6 cd7 cd8 cd10 cd11 cd12 cd13 cd14 cd15 cd16 cd17 cd18 cd19 cd20 cd21 cd22 cd23 cd24 cd25 cd26 ct1 ct2 ct3 ct4 ct5 ct6 ct7 ct8 ct10 ct11 ct12 ct13 ct14 ct15 ct16 ct17 ct18 ct19 ct20 ct21 ct22 ct23 ct24 ct25 ct26 : Value} {cc0 cc1 cc2 cc3 cc4 cc5 cc6 ccp : Addr} {tk0 tk1 tk2 : Tok}
    (a1 : PySem.W.nsIn K mainGlobals "check_links" = some (some (.ref f1))) (l1 : K.lookup f1 = some ⟨oc1, od1, .func (PySem.W.fnOf "check_links" "check_links" (defArgs s_check_links) (defBody s_check_links) (defScope s_check_links) .none kV1 dc1 pm1 an1 cd1 ct1), sl1⟩) (c1 : PySem.W.codeIn K cd1 "check_links" = true) (k1 : PySem.W.keepIn K (.ref f1) = true)
    (a2 : PySem.W.nsIn K mainGlobals "rises_below" = some (some (.ref f2))) (l2 : K.lookup f2 = some ⟨oc2, od2, .func (PySem.W.fnOf "rises_below" "rises_below" (defArgs s_rises_below) (defBody s_rises_below) (defScope s_rises_below) .none kV2 dc2 pm2 an2 cd2 ct2), sl2⟩) (c2 : PySem.W.codeIn K cd2 "rises_below" = true) (k2 : PySem.W.keepIn K (.ref f2) = true)
    (a3 : PySem.W.nsIn K mainGlobals "check_row" = some (some (.ref f3))) (l3 : K.lookup f3 = some ⟨oc3, od3, .func (PySem.W.fnOf "check_row" "check_row" (defArgs s_check_row) (defBody s_check_row) (defScope s_check_row) .none kV3 dc3 pm3 an3 cd3 ct3), sl3⟩) (c3 : PySem.W.codeIn K cd3 "check_row" = true) (k3 : PySem.W.keepIn K (.ref f3) = true)
    (a4 : PySem.W.nsIn K mainGlobals "pieces" = some (some (.ref f4))) (l4 : K.lookup f4 = some ⟨oc4, od4, .func (PySem.W.fnOf "pieces" "pieces" (defArgs s_pieces) (defBody s_pieces) (defScope s_pieces) .none kV4 dc4 pm4 an4 cd4 ct4), sl4⟩) (c4 : PySem.W.codeIn K cd4 "pieces" = true) (k4 : PySem.W.keepIn K (.ref f4) = true)
    (a5 : PySem.W.nsIn K mainGlobals "sizes" = some (some (.ref f5))) (l5 : K.lookup f5 = some ⟨oc5, od5, .func (PySem.W.fnOf "sizes" "sizes" (defArgs s_sizes) (defBody s_sizes) (defScope s_sizes) .none kV5 dc5 pm5 an5 cd5 ct5), sl5⟩) (c5 : PySem.W.codeIn K cd5 "sizes" = true) (k5 : PySem.W.keepIn K (.ref f5) = true)
    (a6 : PySem.W.nsIn K mainGlobals "gap" = some (some (.ref f6))) (l6 : K.lookup f6 = some ⟨oc6, od6, .func (PySem.W.fnOf "gap" "gap" (defArgs s_gap) (defBody s_gap) (defScope s_gap) .none kV6 dc6 pm6 an6 cd6 ct6), sl6⟩) (c6 : PySem.W.codeIn K cd6 "gap" = true) (k6 : PySem.W.keepIn K (.ref f6) = true)
    (a7 : PySem.W.nsIn K mainGlobals "check_few_opened" = some (some (.ref f7))) (l7 : K.lookup f7 = some ⟨oc7, od7, .func (PySem.W.fnOf "check_few_opened" "check_few_opened" (defArgs s_check_few_opened) (defBody s_check_few_opened) (defScope s_check_few_opened) .none kV7 dc7 pm7 an7 cd7 ct7), sl7⟩) (c7 : PySem.W.codeIn K cd7 "check_few_opened" = true) (k7 : PySem.W.keepIn K (.ref f7) = true)
    (a8 : PySem.W.nsIn K mainGlobals "check_amount" = some (some (.ref f8))) (l8 : K.lookup f8 = some ⟨oc8, od8, .func (PySem.W.fnOf "check_amount" "check_amount" (defArgs s_check_amount) (defBody s_check_amount) (defScope s_check_amount) .none kV8 dc8 pm8 an8 cd8 ct8), sl8⟩) (c8 : PySem.W.codeIn K cd8 "check_amount" = true) (k8 : PySem.W.keepIn K (.ref f8) = true)
    (a10 : PySem.W.nsIn K mainGlobals "ways" = some (some (.ref f10))) (l10 : K.lookup f10 = some ⟨oc10, od10, .func (PySem.W.fnOf "ways" "ways" (defArgs s_ways) (defBody s_ways) (defScope s_ways) .none kV10 dc10 pm10 an10 cd10 ct10), sl10⟩) (c10 : PySem.W.codeIn K cd10 "ways" = true) (k10 : PySem.W.keepIn K (.ref f10) = true)
    (a11 : PySem.W.nsIn K mainGlobals "payment" = some (some (.ref f11))) (l11 : K.lookup f11 = some ⟨oc11, od11, .func (PySem.W.fnOf "payment" "payment" (defArgs s_payment) (defBody s_payment) (defScope s_payment) .none kV11 dc11 pm11 an11 cd11 ct11), sl11⟩) (c11 : PySem.W.codeIn K cd11 "payment" = true) (k11 : PySem.W.keepIn K (.ref f11) = true)
    (a12 : PySem.W.nsIn K mainGlobals "payable" = some (some (.ref f12))) (l12 : K.lookup f12 = some ⟨oc12, od12, .func (PySem.W.fnOf "payable" "payable" (defArgs s_payable) (defBody s_payable) (defScope s_payable) .none kV12 dc12 pm12 an12 cd12 ct12), sl12⟩) (c12 : PySem.W.codeIn K cd12 "payable" = true) (k12 : PySem.W.keepIn K (.ref f12) = true)
    (a13 : PySem.W.nsIn K mainGlobals "held_amount" = some (some (.ref f13))) (l13 : K.lookup f13 = some ⟨oc13, od13, .func (PySem.W.fnOf "held_amount" "held_amount" (defArgs s_held_amount) (defBody s_held_amount) (defScope s_held_amount) .none kV13 dc13 pm13 an13 cd13 ct13), sl13⟩) (c13 : PySem.W.codeIn K cd13 "held_amount" = true) (k13 : PySem.W.keepIn K (.ref f13) = true)
    (a14 : PySem.W.nsIn K mainGlobals "payment_on_the_day" = some (some (.ref f14))) (l14 : K.lookup f14 = some ⟨oc14, od14, .func (PySem.W.fnOf "payment_on_the_day" "payment_on_the_day" (defArgs s_payment_on_the_day) (defBody s_payment_on_the_day) (defScope s_payment_on_the_day) .none kV14 dc14 pm14 an14 cd14 ct14), sl14⟩) (c14 : PySem.W.codeIn K cd14 "payment_on_the_day" = true) (k14 : PySem.W.keepIn K (.ref f14) = true)
    (a15 : PySem.W.nsIn K mainGlobals "step" = some (some (.ref f15))) (l15 : K.lookup f15 = some ⟨oc15, od15, .func (PySem.W.fnOf "step" "step" (defArgs s_step) (defBody s_step) (defScope s_step) .none kV15 dc15 pm15 an15 cd15 ct15), sl15⟩) (c15 : PySem.W.codeIn K cd15 "step" = true) (k15 : PySem.W.keepIn K (.ref f15) = true)
    (a16 : PySem.W.nsIn K mainGlobals "check_length" = some (some (.ref f16))) (l16 : K.lookup f16 = some ⟨oc16, od16, .func (PySem.W.fnOf "check_length" "check_length" (defArgs s_check_length) (defBody s_check_length) (defScope s_check_length) .none kV16 dc16 pm16 an16 cd16 ct16), sl16⟩) (c16 : PySem.W.codeIn K cd16 "check_length" = true) (k16 : PySem.W.keepIn K (.ref f16) = true)
    (a17 : PySem.W.nsIn K mainGlobals "shown" = some (some (.ref f17))) (l17 : K.lookup f17 = some ⟨oc17, od17, .func (PySem.W.fnOf "shown" "shown" (defArgs s_shown) (defBody s_shown) (defScope s_shown) .none kV17 dc17 pm17 an17 cd17 ct17), sl17⟩) (c17 : PySem.W.codeIn K cd17 "shown" = true) (k17 : PySem.W.keepIn K (.ref f17) = true)
    (a18 : PySem.W.nsIn K mainGlobals "_law_cell_at" = some (some (.ref f18))) (l18 : K.lookup f18 = some ⟨oc18, od18, .func (PySem.W.fnOf "_law_cell_at" "_law_cell_at" (defArgs s__law_cell_at) (defBody s__law_cell_at) (defScope s__law_cell_at) .none kV18 dc18 pm18 an18 cd18 ct18), sl18⟩) (c18 : PySem.W.codeIn K cd18 "_law_cell_at" = true) (k18 : PySem.W.keepIn K (.ref f18) = true)
    (a19 : PySem.W.nsIn K mainGlobals "_law_next" = some (some (.ref f19))) (l19 : K.lookup f19 = some ⟨oc19, od19, .func (PySem.W.fnOf "_law_next" "_law_next" (defArgs s__law_next) (defBody s__law_next) (defScope s__law_next) .none kV19 dc19 pm19 an19 cd19 ct19), sl19⟩) (c19 : PySem.W.codeIn K cd19 "_law_next" = true) (k19 : PySem.W.keepIn K (.ref f19) = true)
    (a20 : PySem.W.nsIn K mainGlobals "_law_row_by" = some (some (.ref f20))) (l20 : K.lookup f20 = some ⟨oc20, od20, .func (PySem.W.fnOf "_law_row_by" "_law_row_by" (defArgs s__law_row_by) (defBody s__law_row_by) (defScope s__law_row_by) .none kV20 dc20 pm20 an20 cd20 ct20), sl20⟩) (c20 : PySem.W.codeIn K cd20 "_law_row_by" = true) (k20 : PySem.W.keepIn K (.ref f20) = true)
    (a21 : PySem.W.nsIn K mainGlobals "_law_other" = some (some (.ref f21))) (l21 : K.lookup f21 = some ⟨oc21, od21, .func (PySem.W.fnOf "_law_other" "_law_other" (defArgs s__law_other) (defBody s__law_other) (defScope s__law_other) .none kV21 dc21 pm21 an21 cd21 ct21), sl21⟩) (c21 : PySem.W.codeIn K cd21 "_law_other" = true) (k21 : PySem.W.keepIn K (.ref f21) = true)
    (a22 : PySem.W.nsIn K mainGlobals "_law_spoilt" = some (some (.ref f22))) (l22 : K.lookup f22 = some ⟨oc22, od22, .func (PySem.W.fnOf "_law_spoilt" "_law_spoilt" (defArgs s__law_spoilt) (defBody s__law_spoilt) (defScope s__law_spoilt) .none kV22 dc22 pm22 an22 cd22 ct22), sl22⟩) (c22 : PySem.W.codeIn K cd22 "_law_spoilt" = true) (k22 : PySem.W.keepIn K (.ref f22) = true)
    (a23 : PySem.W.nsIn K mainGlobals "_law_good" = some (some (.ref f23))) (l23 : K.lookup f23 = some ⟨oc23, od23, .func (PySem.W.fnOf "_law_good" "_law_good" (defArgs s__law_good) (defBody s__law_good) (defScope s__law_good) .none kV23 dc23 pm23 an23 cd23 ct23), sl23⟩) (c23 : PySem.W.codeIn K cd23 "_law_good" = true) (k23 : PySem.W.keepIn K (.ref f23) = true)
    (a24 : PySem.W.nsIn K mainGlobals "_law_called" = some (some (.ref f24))) (l24 : K.lookup f24 = some ⟨oc24, od24, .func (PySem.W.fnOf "_law_called" "_law_called" (defArgs s__law_called) (defBody s__law_called) (defScope s__law_called) .none kV24 dc24 pm24 an24 cd24 ct24), sl24⟩) (c24 : PySem.W.codeIn K cd24 "_law_called" = true) (k24 : PySem.W.keepIn K (.ref f24) = true)
    (a25 : PySem.W.nsIn K mainGlobals "_law_told" = some (some (.ref f25))) (l25 : K.lookup f25 = some ⟨oc25, od25, .func (PySem.W.fnOf "_law_told" "_law_told" (defArgs s__law_told) (defBody s__law_told) (defScope s__law_told) .none kV25 dc25 pm25 an25 cd25 ct25), sl25⟩) (c25 : PySem.W.codeIn K cd25 "_law_told" = true) (k25 : PySem.W.keepIn K (.ref f25) = true)
    (a26 : PySem.W.nsIn K mainGlobals "law" = some (some (.ref f26))) (l26 : K.lookup f26 = some ⟨oc26, od26, .func (PySem.W.fnOf "law" "law" (defArgs s_law) (defBody s_law) (defScope s_law) .none kV26 dc26 pm26 an26 cd26 ct26), sl26⟩) (c26 : PySem.W.codeIn K cd26 "law" = true) (k26 : PySem.W.keepIn K (.ref f26) = true)
    (z0 : PySem.W.nsIn K mainGlobals "len" = some none)
    (z1 : PySem.W.nsIn K mainGlobals "range" = some none)
    (z2 : PySem.W.nsIn K mainGlobals "list" = some none)
    (z3 : PySem.W.nsIn K mainGlobals "sorted" = some none)
    (z4 : PySem.W.nsIn K mainGlobals "isinstance" = some none)
    (z5 : PySem.W.nsIn K mainGlobals "int" = some none)
    (z6 : PySem.W.nsIn K mainGlobals "bool" = some none)
    (z7 : PySem.W.nsIn K mainGlobals "tuple" = some none)
    (z8 : PySem.W.nsIn K mainGlobals "dict" = some none)
    (z9 : PySem.W.nsIn K mainGlobals "sum" = some none)
    (z10 : PySem.W.nsIn K mainGlobals "max" = some none)
    (z11 : PySem.W.nsIn K mainGlobals "min" = some none)
    (z12 : PySem.W.nsIn K mainGlobals "enumerate" = some none)
    (z13 : PySem.W.nsIn K mainGlobals "zip" = some none)
    (z14 : PySem.W.nsIn K mainGlobals "set" = some none)
    (z15 : PySem.W.nsIn K mainGlobals "str" = some none)
    (z16 : PySem.W.nsIn K mainGlobals "ValueError" = some none)
    (m0 : PySem.W.nsIn K mainGlobals "MOST_OPENED" = some (some (.int 100 tk0)))
    (m1 : PySem.W.nsIn K mainGlobals "MOST_OPENED_TO_PAY" = some (some (.int 8 tk1)))
    (m2 : PySem.W.nsIn K mainGlobals "MOST_SIGNS" = some (some (.int 60 tk2)))
    (y0 : PySem.W.nsIn K mainGlobals "NoRow" = some (some (.ref cc0)))
    (y1 : PySem.W.nsIn K mainGlobals "NoOpened" = some (some (.ref cc1)))
    (y2 : PySem.W.nsIn K mainGlobals "TooMany" = some (some (.ref cc2)))
    (y3 : PySem.W.nsIn K mainGlobals "NoAmount" = some (some (.ref cc3)))
    (y4 : PySem.W.nsIn K mainGlobals "NoPayment" = some (some (.ref cc4)))
    (y5 : PySem.W.nsIn K mainGlobals "NoCount" = some (some (.ref cc5)))
    (y6 : PySem.W.nsIn K mainGlobals "NoNote" = some (some (.ref cc6)))
    (yp : PySem.W.nsIn K mainGlobals "PayError" = some (some (.ref ccp)))
    (o0 : PySem.W.excIn K cc0 [.type "ValueError", .type "Exception", .type "BaseException", .type "object"] "ValueError.__new__" = true)
    (g0_0 : PySem.W.findIn K (.ref cc0) "__getattribute__" = some (some (.builtin "BaseException.__getattribute__")))
    (g0_1 : PySem.W.findIn K (.ref cc0) "__getattr__" = some none)
    (g0_2 : PySem.W.findIn K (.ref cc0) "__class__" = some (some (.builtin "object.__class__")))
    (g0_3 : PySem.W.mroIn K cc0 (.type "object") = some true)
    (g0_4 : PySem.W.mroIn K cc0 (.type "BaseException") = some true)
    (t0_0 : PySem.W.kitOne K (.ref cc0) (.ref cc0) = some true)
    (t0_1 : PySem.W.kitOne K (.ref cc0) (.ref cc1) = some false)
    (t0_2 : PySem.W.kitOne K (.ref cc0) (.ref cc2) = some false)
    (t0_3 : PySem.W.kitOne K (.ref cc0) (.ref cc3) = some false)
    (t0_4 : PySem.W.kitOne K (.ref cc0) (.ref cc4) = some false)
    (t0_5 : PySem.W.kitOne K (.ref cc0) (.ref cc5) = some false)
    (t0_6 : PySem.W.kitOne K (.ref cc0) (.ref cc6) = some false)
    (v0 : PySem.W.kitOne K (.ref cc0) (.type "ValueError") = some true)
    (x0 : PySem.W.exmOne K (.ref cc0) (.ref ccp) = some true)
    (o1 : PySem.W.excIn K cc1 [.type "ValueError", .type "Exception", .type "BaseException", .type "object"] "ValueError.__new__" = true)
    (g1_0 : PySem.W.findIn K (.ref cc1) "__getattribute__" = some (some (.builtin "BaseException.__getattribute__")))
    (g1_1 : PySem.W.findIn K (.ref cc1) "__getattr__" = some none)
    (g1_2 : PySem.W.findIn K (.ref cc1) "__class__" = some (some (.builtin "object.__class__")))
    (g1_3 : PySem.W.mroIn K cc1 (.type "object") = some true)
    (g1_4 : PySem.W.mroIn K cc1 (.type "BaseException") = some true)
    (t1_0 : PySem.W.kitOne K (.ref cc1) (.ref cc0) = some false)
    (t1_1 : PySem.W.kitOne K (.ref cc1) (.ref cc1) = some true)
    (t1_2 : PySem.W.kitOne K (.ref cc1) (.ref cc2) = some false)
    (t1_3 : PySem.W.kitOne K (.ref cc1) (.ref cc3) = some false)
    (t1_4 : PySem.W.kitOne K (.ref cc1) (.ref cc4) = some false)
    (t1_5 : PySem.W.kitOne K (.ref cc1) (.ref cc5) = some false)
    (t1_6 : PySem.W.kitOne K (.ref cc1) (.ref cc6) = some false)
    (v1 : PySem.W.kitOne K (.ref cc1) (.type "ValueError") = some true)
    (x1 : PySem.W.exmOne K (.ref cc1) (.ref ccp) = some true)
    (o2 : PySem.W.excIn K cc2 [.type "ValueError", .type "Exception", .type "BaseException", .type "object"] "ValueError.__new__" = true)
    (g2_0 : PySem.W.findIn K (.ref cc2) "__getattribute__" = some (some (.builtin "BaseException.__getattribute__")))
    (g2_1 : PySem.W.findIn K (.ref cc2) "__getattr__" = some none)
    (g2_2 : PySem.W.findIn K (.ref cc2) "__class__" = some (some (.builtin "object.__class__")))
    (g2_3 : PySem.W.mroIn K cc2 (.type "object") = some true)
    (g2_4 : PySem.W.mroIn K cc2 (.type "BaseException") = some true)
    (t2_0 : PySem.W.kitOne K (.ref cc2) (.ref cc0) = some false)
    (t2_1 : PySem.W.kitOne K (.ref cc2) (.ref cc1) = some false)
    (t2_2 : PySem.W.kitOne K (.ref cc2) (.ref cc2) = some true)
    (t2_3 : PySem.W.kitOne K (.ref cc2) (.ref cc3) = some false)
    (t2_4 : PySem.W.kitOne K (.ref cc2) (.ref cc4) = some false)
    (t2_5 : PySem.W.kitOne K (.ref cc2) (.ref cc5) = some false)
    (t2_6 : PySem.W.kitOne K (.ref cc2) (.ref cc6) = some false)
    (v2 : PySem.W.kitOne K (.ref cc2) (.type "ValueError") = some true)
    (x2 : PySem.W.exmOne K (.ref cc2) (.ref ccp) = some true)
    (o3 : PySem.W.excIn K cc3 [.type "ValueError", .type "Exception", .type "BaseException", .type "object"] "ValueError.__new__" = true)
    (g3_0 : PySem.W.findIn K (.ref cc3) "__getattribute__" = some (some (.builtin "BaseException.__getattribute__")))
    (g3_1 : PySem.W.findIn K (.ref cc3) "__getattr__" = some none)
    (g3_2 : PySem.W.findIn K (.ref cc3) "__class__" = some (some (.builtin "object.__class__")))
    (g3_3 : PySem.W.mroIn K cc3 (.type "object") = some true)
    (g3_4 : PySem.W.mroIn K cc3 (.type "BaseException") = some true)
    (t3_0 : PySem.W.kitOne K (.ref cc3) (.ref cc0) = some false)
    (t3_1 : PySem.W.kitOne K (.ref cc3) (.ref cc1) = some false)
    (t3_2 : PySem.W.kitOne K (.ref cc3) (.ref cc2) = some false)
    (t3_3 : PySem.W.kitOne K (.ref cc3) (.ref cc3) = some true)
    (t3_4 : PySem.W.kitOne K (.ref cc3) (.ref cc4) = some false)
    (t3_5 : PySem.W.kitOne K (.ref cc3) (.ref cc5) = some false)
    (t3_6 : PySem.W.kitOne K (.ref cc3) (.ref cc6) = some false)
    (v3 : PySem.W.kitOne K (.ref cc3) (.type "ValueError") = some true)
    (x3 : PySem.W.exmOne K (.ref cc3) (.ref ccp) = some true)
    (o4 : PySem.W.excIn K cc4 [.type "ValueError", .type "Exception", .type "BaseException", .type "object"] "ValueError.__new__" = true)
    (g4_0 : PySem.W.findIn K (.ref cc4) "__getattribute__" = some (some (.builtin "BaseException.__getattribute__")))
    (g4_1 : PySem.W.findIn K (.ref cc4) "__getattr__" = some none)
    (g4_2 : PySem.W.findIn K (.ref cc4) "__class__" = some (some (.builtin "object.__class__")))
    (g4_3 : PySem.W.mroIn K cc4 (.type "object") = some true)
    (g4_4 : PySem.W.mroIn K cc4 (.type "BaseException") = some true)
    (t4_0 : PySem.W.kitOne K (.ref cc4) (.ref cc0) = some false)
    (t4_1 : PySem.W.kitOne K (.ref cc4) (.ref cc1) = some false)
    (t4_2 : PySem.W.kitOne K (.ref cc4) (.ref cc2) = some false)
    (t4_3 : PySem.W.kitOne K (.ref cc4) (.ref cc3) = some false)
    (t4_4 : PySem.W.kitOne K (.ref cc4) (.ref cc4) = some true)
    (t4_5 : PySem.W.kitOne K (.ref cc4) (.ref cc5) = some false)
    (t4_6 : PySem.W.kitOne K (.ref cc4) (.ref cc6) = some false)
    (v4 : PySem.W.kitOne K (.ref cc4) (.type "ValueError") = some true)
    (x4 : PySem.W.exmOne K (.ref cc4) (.ref ccp) = some true)
    (o6 : PySem.W.excIn K cc6 [.type "ValueError", .type "Exception", .type "BaseException", .type "object"] "ValueError.__new__" = true)
    (g6_0 : PySem.W.findIn K (.ref cc6) "__getattribute__" = some (some (.builtin "BaseException.__getattribute__")))
    (g6_1 : PySem.W.findIn K (.ref cc6) "__getattr__" = some none)
    (g6_2 : PySem.W.findIn K (.ref cc6) "__class__" = some (some (.builtin "object.__class__")))
    (g6_3 : PySem.W.mroIn K cc6 (.type "object") = some true)
    (g6_4 : PySem.W.mroIn K cc6 (.type "BaseException") = some true)
    (t6_0 : PySem.W.kitOne K (.ref cc6) (.ref cc0) = some false)
    (t6_1 : PySem.W.kitOne K (.ref cc6) (.ref cc1) = some false)
    (t6_2 : PySem.W.kitOne K (.ref cc6) (.ref cc2) = some false)
    (t6_3 : PySem.W.kitOne K (.ref cc6) (.ref cc3) = some false)
    (t6_4 : PySem.W.kitOne K (.ref cc6) (.ref cc4) = some false)
    (t6_5 : PySem.W.kitOne K (.ref cc6) (.ref cc5) = some false)
    (t6_6 : PySem.W.kitOne K (.ref cc6) (.ref cc6) = some true)
    (v6 : PySem.W.kitOne K (.ref cc6) (.type "ValueError") = some true)
    (x6 : PySem.W.exmOne K (.ref cc6) (.ref ccp) = some true) :
    ∃ fd : FuncData, (∀ (s : Shared) (v : Value), BindsTo s fd ⟨[v], []⟩ [("script", v)]) ∧ ∀ base : Heap, K.In base → base.Ns mainGlobals mg → FnOk l.prog w K mg base CX0 10 fa fd ["script"] (spLaw K) := by
  have e := hfa.symm.trans (PySem.W.mg_of X G a26)
  cases e
  have B : Bl mg := ⟨PySem.W.mg_none_of X G z0, PySem.W.mg_none_of X G z1, PySem.W.mg_none_of X G z2, PySem.W.mg_none_of X G z3, PySem.W.mg_none_of X G z4, PySem.W.mg_none_of X G z5, PySem.W.mg_none_of X G z6, PySem.W.mg_none_of X G z7, PySem.W.mg_none_of X G z8, PySem.W.mg_none_of X G z9, PySem.W.mg_none_of X G z10, PySem.W.mg_none_of X G z11, PySem.W.mg_none_of X G z12, PySem.W.mg_none_of X G z13, PySem.W.mg_none_of X G z14, PySem.W.mg_none_of X G z15, PySem.W.mg_none_of X G z16⟩
  have c_MOST_OPENED : ∃ t, mg "MOST_OPENED" = some (.int 100 t) := ⟨_, PySem.W.mg_of X G m0⟩
  have c_MOST_OPENED_TO_PAY : ∃ t, mg "MOST_OPENED_TO_PAY" = some (.int 8 t) := ⟨_, PySem.W.mg_of X G m1⟩
  have c_MOST_SIGNS : ∃ t, mg "MOST_SIGNS" = some (.int 60 t) := ⟨_, PySem.W.mg_of X G m2⟩
  have F1 := fun_mk (st := s_check_links) l1 c1 k1
  have D1 : Df K mg "check_links" ["links"] s_check_links := ⟨_, _, F1, F1.binds (ps := ["links"]) (fun _ _ _ _ _ _ us hl => match us, hl with | [_], _ => rfl), PySem.W.mg_of X G a1⟩
  have F2 := fun_mk (st := s_rises_below) l2 c2 k2
  have D2 : Df K mg "rises_below" ["numbers", "end"] s_rises_below := ⟨_, _, F2, F2.binds (ps := ["numbers", "end"]) (fun _ _ _ _ _ _ us hl => match us, hl with | [_, _], _ => rfl), PySem.W.mg_of X G a2⟩
  have F3 := fun_mk (st := s_check_row) l3 c3 k3
  have D3 : Df K mg "check_row" ["links", "opened"] s_check_row := ⟨_, _, F3, F3.binds (ps := ["links", "opened"]) (fun _ _ _ _ _ _ us hl => match us, hl with | [_, _], _ => rfl), PySem.W.mg_of X G a3⟩
  have F4 := fun_mk (st := s_pieces) l4 c4 k4
  have D4 : Df K mg "pieces" ["links", "opened"] s_pieces := ⟨_, _, F4, F4.binds (ps := ["links", "opened"]) (fun _ _ _ _ _ _ us hl => match us, hl with | [_, _], _ => rfl), PySem.W.mg_of X G a4⟩
  have F5 := fun_mk (st := s_sizes) l5 c5 k5
  have D5 : Df K mg "sizes" ["links", "opened"] s_sizes := ⟨_, _, F5, F5.binds (ps := ["links", "opened"]) (fun _ _ _ _ _ _ us hl => match us, hl with | [_, _], _ => rfl), PySem.W.mg_of X G a5⟩
  have F6 := fun_mk (st := s_gap) l6 c6 k6
  have D6 : Df K mg "gap" ["links", "opened"] s_gap := ⟨_, _, F6, F6.binds (ps := ["links", "opened"]) (fun _ _ _ _ _ _ us hl => match us, hl with | [_, _], _ => rfl), PySem.W.mg_of X G a6⟩
  have F7 := fun_mk (st := s_check_few_opened) l7 c7 k7
  have D7 : Df K mg "check_few_opened" ["links", "opened"] s_check_few_opened := ⟨_, _, F7, F7.binds (ps := ["links", "opened"]) (fun _ _ _ _ _ _ us hl => match us, hl with | [_, _], _ => rfl), PySem.W.mg_of X G a7⟩
  have F8 := fun_mk (st := s_check_amount) l8 c8 k8
  have D8 : Df K mg "check_amount" ["links", "opened", "amount"] s_check_amount := ⟨_, _, F8, F8.binds (ps := ["links", "opened", "amount"]) (fun _ _ _ _ _ _ us hl => match us, hl with | [_, _, _], _ => rfl), PySem.W.mg_of X G a8⟩
  have F10 := fun_mk (st := s_ways) l10 c10 k10
  have D10 : Df K mg "ways" ["links", "opened", "amount"] s_ways := ⟨_, _, F10, F10.binds (ps := ["links", "opened", "amount"]) (fun _ _ _ _ _ _ us hl => match us, hl with | [_, _, _], _ => rfl), PySem.W.mg_of X G a10⟩
  have F11 := fun_mk (st := s_payment) l11 c11 k11
  have D11 : Df K mg "payment" ["links", "opened", "amount"] s_payment := ⟨_, _, F11, F11.binds (ps := ["links", "opened", "amount"]) (fun _ _ _ _ _ _ us hl => match us, hl with | [_, _, _], _ => rfl), PySem.W.mg_of X G a11⟩
  have F12 := fun_mk (st := s_payable) l12 c12 k12
  have D12 : Df K mg "payable" ["links", "opened", "amount"] s_payable := ⟨_, _, F12, F12.binds (ps := ["links", "opened", "amount"]) (fun _ _ _ _ _ _ us hl => match us, hl with | [_, _, _], _ => rfl), PySem.W.mg_of X G a12⟩
  have F13 := fun_mk (st := s_held_amount) l13 c13 k13
  have D13 : Df K mg "held_amount" ["links", "opened", "held"] s_held_amount := ⟨_, _, F13, F13.binds (ps := ["links", "opened", "held"]) (fun _ _ _ _ _ _ us hl => match us, hl with | [_, _, _], _ => rfl), PySem.W.mg_of X G a13⟩
  have F14 := fun_mk (st := s_payment_on_the_day) l14 c14 k14
  have D14 : Df K mg "payment_on_the_day" ["links", "opened", "amount"] s_payment_on_the_day := ⟨_, _, F14, F14.binds (ps := ["links", "opened", "amount"]) (fun _ _ _ _ _ _ us hl => match us, hl with | [_, _, _], _ => rfl), PySem.W.mg_of X G a14⟩
  have F15 := fun_mk (st := s_step) l15 c15 k15
  have D15 : Df K mg "step" ["links", "opened", "held"] s_step := ⟨_, _, F15, F15.binds (ps := ["links", "opened", "held"]) (fun _ _ _ _ _ _ us hl => match us, hl with | [_, _, _], _ => rfl), PySem.W.mg_of X G a15⟩
  have F16 := fun_mk (st := s_check_length) l16 c16 k16
  have D16 : Df K mg "check_length" ["links"] s_check_length := ⟨_, _, F16, F16.binds (ps := ["links"]) (fun _ _ _ _ _ _ us hl => match us, hl with | [_], _ => rfl), PySem.W.mg_of X G a16⟩
  have F17 := fun_mk (st := s_shown) l17 c17 k17
  have D17 : Df K mg "shown" ["links", "opened"] s_shown := ⟨_, _, F17, F17.binds (ps := ["links", "opened"]) (fun _ _ _ _ _ _ us hl => match us, hl with | [_, _], _ => rfl), PySem.W.mg_of X G a17⟩
  have F18 := fun_mk (st := s__law_cell_at) l18 c18 k18
  have D18 : Df K mg "_law_cell_at" ["script", "k"] s__law_cell_at := ⟨_, _, F18, F18.binds (ps := ["script", "k"]) (fun _ _ _ _ _ _ us hl => match us, hl with | [_, _], _ => rfl), PySem.W.mg_of X G a18⟩
  have F19 := fun_mk (st := s__law_next) l19 c19 k19
  have D19 : Df K mg "_law_next" ["seed"] s__law_next := ⟨_, _, F19, F19.binds (ps := ["seed"]) (fun _ _ _ _ _ _ us hl => match us, hl with | [_], _ => rfl), PySem.W.mg_of X G a19⟩
  have F20 := fun_mk (st := s__law_row_by) l20 c20 k20
  have D20 : Df K mg "_law_row_by" ["script", "most"] s__law_row_by := ⟨_, _, F20, F20.binds (ps := ["script", "most"]) (fun _ _ _ _ _ _ us hl => match us, hl with | [_, _], _ => rfl), PySem.W.mg_of X G a20⟩
  have F21 := fun_mk (st := s__law_other) l21 c21 k21
  have D21 : Df K mg "_law_other" ["e", "wanted"] s__law_other := ⟨_, _, F21, F21.binds (ps := ["e", "wanted"]) (fun _ _ _ _ _ _ us hl => match us, hl with | [_, _], _ => rfl), PySem.W.mg_of X G a21⟩
  have F22 := fun_mk (st := s__law_spoilt) l22 c22 k22
  have D22 : Df K mg "_law_spoilt" ["links", "opened", "how", "cell"] s__law_spoilt := ⟨_, _, F22, F22.binds (ps := ["links", "opened", "how", "cell"]) (fun _ _ _ _ _ _ us hl => match us, hl with | [_, _, _, _], _ => rfl), PySem.W.mg_of X G a22⟩
  have F23 := fun_mk (st := s__law_good) l23 c23 k23
  have D23 : Df K mg "_law_good" ["links", "opened"] s__law_good := ⟨_, _, F23, F23.binds (ps := ["links", "opened"]) (fun _ _ _ _ _ _ us hl => match us, hl with | [_, _], _ => rfl), PySem.W.mg_of X G a23⟩
  have F24 := fun_mk (st := s__law_called) l24 c24 k24
  have D24 : Df K mg "_law_called" ["which", "links", "opened"] s__law_called := ⟨_, _, F24, F24.binds (ps := ["which", "links", "opened"]) (fun _ _ _ _ _ _ us hl => match us, hl with | [_, _, _], _ => rfl), PySem.W.mg_of X G a24⟩
  have F25 := fun_mk (st := s__law_told) l25 c25 k25
  have D25 : Df K mg "_law_told" ["which", "links", "opened"] s__law_told := ⟨_, _, F25, F25.binds (ps := ["which", "links", "opened"]) (fun _ _ _ _ _ _ us hl => match us, hl with | [_, _, _], _ => rfl), PySem.W.mg_of X G a25⟩
  have F26 := fun_mk (st := s_law) l26 c26 k26
  have D26 : Df K mg "law" ["script"] s_law := ⟨_, _, F26, F26.binds (ps := ["script"]) (fun _ _ _ _ _ _ us hl => match us, hl with | [_], _ => rfl), PySem.W.mg_of X G a26⟩
  refine ⟨PySem.W.fnOf "law" "law" (defArgs s_law) (defBody s_law) (defScope s_law) .none kV26 dc26 pm26 an26 cd26 ct26, fun s v => .of_eq rfl, fun base _ _ => ?_⟩
  have N7 : Cls7 mg (clsF cc0 cc1 cc2 cc3 cc4 cc5 cc6) ccp := ⟨PySem.W.mg_of X G y0, PySem.W.mg_of X G y1, PySem.W.mg_of X G y2, PySem.W.mg_of X G y3, PySem.W.mg_of X G y4, PySem.W.mg_of X G y5, PySem.W.mg_of X G y6, PySem.W.mg_of X G yp⟩
  have R0 : Rz K (clsF cc0 cc1 cc2 cc3 cc4 cc5 cc6) ccp 0 := ⟨o0, ⟨g0_0, g0_1, g0_2, g0_3, g0_4⟩, kit7 t0_0 t0_1 t0_2 t0_3 t0_4 t0_5 t0_6, v0, x0⟩
  have R1 : Rz K (clsF cc0 cc1 cc2 cc3 cc4 cc5 cc6) ccp 1 := ⟨o1, ⟨g1_0, g1_1, g1_2, g1_3, g1_4⟩, kit7 t1_0 t1_1 t1_2 t1_3 t1_4 t1_5 t1_6, v1, x1⟩
  have R2 : Rz K (clsF cc0 cc1 cc2 cc3 cc4 cc5 cc6) ccp 2 := ⟨o2, ⟨g2_0, g2_1, g2_2, g2_3, g2_4⟩, kit7 t2_0 t2_1 t2_2 t2_3 t2_4 t2_5 t2_6, v2, x2⟩
  have R3 : Rz K (clsF cc0 cc1 cc2 cc3 cc4 cc5 cc6) ccp 3 := ⟨o3, ⟨g3_0, g3_1, g3_2, g3_3, g3_4⟩, kit7 t3_0 t3_1 t3_2 t3_3 t3_4 t3_5 t3_6, v3, x3⟩
  have R4 : Rz K (clsF cc0 cc1 cc2 cc3 cc4 cc5 cc6) ccp 4 := ⟨o4, ⟨g4_0, g4_1, g4_2, g4_3, g4_4⟩, kit7 t4_0 t4_1 t4_2 t4_3 t4_4 t4_5 t4_6, v4, x4⟩
  have R6 : Rz K (clsF cc0 cc1 cc2 cc3 cc4 cc5 cc6) ccp 6 := ⟨o6, ⟨g6_0, g6_1, g6_2, g6_3, g6_4⟩, kit7 t6_0 t6_1 t6_2 t6_3 t6_4 t6_5 t6_6, v6, x6⟩
  have X_check_links := okX_check_links (P := l.prog) (w := w) (base := base) D1 ⟨PySem.W.mg_of X G y0, o0⟩
  have C_check_links := ok_check_links X_check_links
  have C_rises_below := ok_rises_below (P := l.prog) (w := w) (base := base) D2
  have C_check_row := ok_check_row (P := l.prog) (w := w) (base := base) D3 B c_MOST_OPENED C_check_links C_rises_below
  have R_check_row := okR_check_row (P := l.prog) (w := w) (base := base) D3 B c_MOST_OPENED ⟨PySem.W.mg_of X G y1, o1⟩ X_check_links C_rises_below
  have C_pieces := ok_pieces (P := l.prog) (w := w) (base := base) D4 C_check_row
  have R_pieces := okR_pieces (P := l.prog) (w := w) (base := base) D4 R_check_row
  have C_sizes := ok_sizes (P := l.prog) (w := w) (base := base) D5 C_pieces
  have R_sizes := okR_sizes (P := l.prog) (w := w) (base := base) D5 R_pieces
  have C_gap := ok_gap (P := l.prog) (w := w) (base := base) D6 B C_sizes
  have R_gap := okR_gap (P := l.prog) (w := w) (base := base) D6 B R_sizes
  have C_check_few := ok_check_few_opened (P := l.prog) (w := w) (base := base) D7 B c_MOST_OPENED_TO_PAY C_check_row
  have X_check_few := okX_check_few_opened (P := l.prog) (w := w) (base := base) D7 B c_MOST_OPENED_TO_PAY ⟨PySem.W.mg_of X G y2, o2⟩ C_check_row
  have R_check_few := okR_check_few_opened (P := l.prog) (w := w) (base := base) D7 R_check_row
  have C_check_amount := ok_check_amount (P := l.prog) (w := w) (base := base) D8 C_check_few
  have B_check_amount := okB_check_amount (P := l.prog) (w := w) (base := base) D8 ⟨PySem.W.mg_of X G y3, o3⟩ X_check_few
  have R_check_amount := okR_check_amount (P := l.prog) (w := w) (base := base) D8 R_check_few
  have B_ways := okB_ways (P := l.prog) (w := w) (base := base) D10 B_check_amount
  have R_ways := okR_ways (P := l.prog) (w := w) (base := base) D10 R_check_amount
  have C_payment := ok_payment (P := l.prog) (w := w) (base := base) D11 B C_check_amount C_sizes
  have B_payment := okB_payment (P := l.prog) (w := w) (base := base) D11 B_check_amount
  have R_payment := okR_payment (P := l.prog) (w := w) (base := base) D11 R_check_amount
  have B_payable := okB_payable (P := l.prog) (w := w) (base := base) D12 B_ways
  have R_payable := okR_payable (P := l.prog) (w := w) (base := base) D12 R_ways
  have X_held_amount := okX_held_amount (P := l.prog) (w := w) (base := base) D13 B ⟨PySem.W.mg_of X G y3, o3⟩ C_sizes C_rises_below
  have X_day := okX_payment_on_the_day (P := l.prog) (w := w) (base := base) D14 ⟨PySem.W.mg_of X G y4, o4⟩ C_payment
  have X_step := okX_step (P := l.prog) (w := w) (base := base) D15 X_check_few X_day X_held_amount
  have R_step := okR_step (P := l.prog) (w := w) (base := base) D15 R_check_few
  have X_check_length := okX_check_length (P := l.prog) (w := w) (base := base) D16 c_MOST_SIGNS ⟨PySem.W.mg_of X G y6, o6⟩
  have X_shown := okX_shown (P := l.prog) (w := w) (base := base) D17 B C_check_row X_check_length
  have R_shown := okR_shown (P := l.prog) (w := w) (base := base) D17 R_check_row
  have C__law_cell_at := ok__law_cell_at (P := l.prog) (w := w) (base := base) D18 B
  have C__law_next := ok__law_next (P := l.prog) (w := w) (base := base) D19
  have C__law_row_by := ok__law_row_by (P := l.prog) (w := w) (base := base) D20 B C__law_cell_at C__law_next
  have H__law_other := ok__law_other (P := l.prog) (w := w) (base := base) D21 B N7
  have C__law_spoilt := ok__law_spoilt (P := l.prog) (w := w) (base := base) D22 B
  have C__law_good := ok__law_good (P := l.prog) (w := w) (base := base) D23 B
  have X__law_called := okX__law_called (P := l.prog) (w := w) (base := base) D24 N7 C_pieces R_pieces C_gap R_gap B_payment R_payment X_step R_step B_payable R_payable B_ways R_ways X_shown R_shown
  have C__law_told := ok__law_told (P := l.prog) (w := w) (base := base) D25 B N7 R0 R1 R2 R3 R6 X__law_called H__law_other
  have C_law := ok_law (P := l.prog) (w := w) (base := base) D26 B C__law_row_by C__law_spoilt C__law_cell_at C__law_next C__law_good C__law_told
  obtain ⟨f, fd, F, b, m, kk, oc, od, osl, lk⟩ := C_law.ex
  have em := m.symm.trans (PySem.W.mg_of X G a26)
  cases em
  have el := lk.symm.trans l26
  cases el
  exact F
theorem walk {l : PySem.W.OpenLaw} {q : Program} {loose : List Str} {XP : (Str → Option Value) → Heap → Prop} {YP : World → Heap → Prop} {d : DefRec} {K : Params → PySem.W.Frag} (hn : l.most = some 63) (hdf : d.params.defaults = [])
    (hY : ∀ (w : World) (h : Heap), YP w h → (K w.params).In h)
    (F : ∀ (w : World) (mg : Str → Option Value) (fa : Addr) (h : Heap), (K w.params).In h → h.Ns mainGlobals mg → mg d.name = some (.ref fa) →
      ∃ fd : FuncData, (∀ (s : Shared) (u : Value), BindsTo s fd ⟨[u], []⟩ [("script", u)]) ∧ ∀ base : Heap, (K w.params).In base → base.Ns mainGlobals mg → FnOk l.prog w (K w.params) mg base CX0 10 fa fd ["script"] (spLaw (K w.params))) :
    PySem.W.WalkO q loose XP YP l.row.toRowW d [] (fun f vs => PySem.call f vs) :=
  L2.walk_of (n := 63) (k := 10) (x := "script") (CX := fun _ => CX0) (sp := fun w => spLaw (K w.params)) hn (by decide) hdf ⟨rfl, by decide, by decide⟩ hY F (fun _ _ a ns hl _ hS => ⟨a, ns, rfl, hS, hl, fun _ => rfl⟩) fun _ _ _ _ _ z => z
end Lp
open PySem PySem.W PyProof.Rows
set_option maxRecDepth 100000 in
set_option maxHeartbeats 0 in
theorem PySem.Challenge.cw_linkpay_k02_rows_refused_holds : PySem.Challenge.rw_linkpay_k02_rows_refused.Holds := by
  w_on; o_law; k_head; (case hw => w_witness2)
  k_fill
  refine Lp.walk (l := PySem.Challenge.rw_linkpay_k02_rows_refused) rfl rfl (fun w h Y => PySem.W.kIn_of Y) ?F
  case F =>
    intro w mg fa h KX G hmg
    refine' Lp.all_mk KX G hmg ?a1 ?l1 ?c1 ?k1 ?a2 ?l2 ?c2 ?k2 ?a3 ?l3 ?c3 ?k3 ?a4 ?l4 ?c4 ?k4 ?a5 ?l5 ?c5 ?k5 ?a6 ?l6 ?c6 ?k6 ?a7 ?l7 ?c7 ?k7 ?a8 ?l8 ?c8 ?k8 ?a10 ?l10 ?c10 ?k10 ?a11 ?l11 ?c11 ?k11 ?a12 ?l12 ?c12 ?k12 ?a13 ?l13 ?c13 ?k13 ?a14 ?l14 ?c14 ?k14 ?a15 ?l15 ?c15 ?k15 ?a16 ?l16 ?c16 ?k16 ?a17 ?l17 ?c17 ?k17 ?a18 ?l18 ?c18 ?k18 ?a19 ?l19 ?c19 ?k19 ?a20 ?l20 ?c20 ?k20 ?a21 ?l21 ?c21 ?k21 ?a22 ?l22 ?c22 ?k22 ?a23 ?l23 ?c23 ?k23 ?a24 ?l24 ?c24 ?k24 ?a25 ?l25 ?c25 ?k25 ?a26 ?l26 ?c26 ?k26 ?z0 ?z1 ?z2 ?z3 ?z4 ?z5 ?z6 ?z7 ?z8 ?z9 ?z10 ?z11 ?z12 ?z13 ?z14 ?z15 ?z16 ?m0 ?m1 ?m2 ?y0 ?y1 ?y2 ?y3 ?y4 ?y5 ?y6 ?yp ?o0 ?g0_0 ?g0_1 ?g0_2 ?g0_3 ?g0_4 ?t0_0 ?t0_1 ?t0_2 ?t0_3 ?t0_4 ?t0_5 ?t0_6 ?v0 ?x0 ?o1 ?g1_0 ?g1_1 ?g1_2 ?g1_3 ?g1_4 ?t1_0 ?t1_1 ?t1_2 ?t1_3 ?t1_4 ?t1_5 ?t1_6 ?v1 ?x1 ?o2 ?g2_0 ?g2_1 ?g2_2 ?g2_3 ?g2_4 ?t2_0 ?t2_1 ?t2_2 ?t2_3 ?t2_4 ?t2_5 ?t2_6 ?v2 ?x2 ?o3 ?g3_0 ?g3_1 ?g3_2 ?g3_3 ?g3_4 ?t3_0 ?t3_1 ?t3_2 ?t3_3 ?t3_4 ?t3_5 ?t3_6 ?v3 ?x3 ?o4 ?g4_0 ?g4_1 ?g4_2 ?g4_3 ?g4_4 ?t4_0 ?t4_1 ?t4_2 ?t4_3 ?t4_4 ?t4_5 ?t4_6 ?v4 ?x4 ?o6 ?g6_0 ?g6_1 ?g6_2 ?g6_3 ?g6_4 ?t6_0 ?t6_1 ?t6_2 ?t6_3 ?t6_4 ?t6_5 ?t6_6 ?v6 ?x6
    (case a1 => k_is)
    (case l1 => k_is)
    (case c1 => k_is)
    (case k1 => k_is)
    (case a2 => k_is)
    (case l2 => k_is)
    (case c2 => k_is)
    (case k2 => k_is)
    (case a3 => k_is)
    (case l3 => k_is)
    (case c3 => k_is)
    (case k3 => k_is)
    (case a4 => k_is)
    (case l4 => k_is)
    (case c4 => k_is)
    (case k4 => k_is)
    (case a5 => k_is)
    (case l5 => k_is)
    (case c5 => k_is)
    (case k5 => k_is)
    (case a6 => k_is)
    (case l6 => k_is)
    (case c6 => k_is)
    (case k6 => k_is)
    (case a7 => k_is)
    (case l7 => k_is)
    (case c7 => k_is)
    (case k7 => k_is)
    (case a8 => k_is)
    (case l8 => k_is)
    (case c8 => k_is)
    (case k8 => k_is)
    (case a10 => k_is)
    (case l10 => k_is)
    (case c10 => k_is)
    (case k10 => k_is)
    (case a11 => k_is)
    (case l11 => k_is)
    (case c11 => k_is)
    (case k11 => k_is)
    (case a12 => k_is)
    (case l12 => k_is)
    (case c12 => k_is)
    (case k12 => k_is)
    (case a13 => k_is)
    (case l13 => k_is)
    (case c13 => k_is)
    (case k13 => k_is)
    (case a14 => k_is)
    (case l14 => k_is)
    (case c14 => k_is)
    (case k14 => k_is)
    (case a15 => k_is)
    (case l15 => k_is)
    (case c15 => k_is)
    (case k15 => k_is)
    (case a16 => k_is)
    (case l16 => k_is)
    (case c16 => k_is)
    (case k16 => k_is)
    (case a17 => k_is)
    (case l17 => k_is)
    (case c17 => k_is)
    (case k17 => k_is)
    (case a18 => k_is)
    (case l18 => k_is)
    (case c18 => k_is)
    (case k18 => k_is)
    (case a19 => k_is)
    (case l19 => k_is)
    (case c19 => k_is)
    (case k19 => k_is)
    (case a20 => k_is)
    (case l20 => k_is)
    (case c20 => k_is)
    (case k20 => k_is)
    (case a21 => k_is)
    (case l21 => k_is)
    (case c21 => k_is)
    (case k21 => k_is)
    (case a22 => k_is)
    (case l22 => k_is)
    (case c22 => k_is)
    (case k22 => k_is)
    (case a23 => k_is)
    (case l23 => k_is)
    (case c23 => k_is)
    (case k23 => k_is)
    (case a24 => k_is)
    (case l24 => k_is)
    (case c24 => k_is)
    (case k24 => k_is)
    (case a25 => k_is)
    (case l25 => k_is)
    (case c25 => k_is)
    (case k25 => k_is)
    (case a26 => k_is)
    (case l26 => k_is)
    (case c26 => k_is)
    (case k26 => k_is)
    (case z0 => k_is)
    (case z1 => k_is)
    (case z2 => k_is)
    (case z3 => k_is)
    (case z4 => k_is)
    (case z5 => k_is)
    (case z6 => k_is)
    (case z7 => k_is)
    (case z8 => k_is)
    (case z9 => k_is)
    (case z10 => k_is)
    (case z11 => k_is)
    (case z12 => k_is)
    (case z13 => k_is)
    (case z14 => k_is)
    (case z15 => k_is)
    (case z16 => k_is)
    (case m0 => k_is)
    (case m1 => k_is)
    (case m2 => k_is)
    (case y0 => k_is)
    (case y1 => k_is)
    (case y2 => k_is)
    (case y3 => k_is)
    (case y4 => k_is)
    (case y5 => k_is)
    (case y6 => k_is)
    (case yp => k_is)
    (case o0 => k_exc)
    (case g0_0 => k_is)
    (case g0_1 => k_is)
    (case g0_2 => k_is)
    (case g0_3 => k_is)
    (case g0_4 => k_is)
    (case t0_0 => kit_is)
    (case t0_1 => kit_is)
    (case t0_2 => kit_is)
    (case t0_3 => kit_is)
    (case t0_4 => kit_is)
    (case t0_5 => kit_is)
    (case t0_6 => kit_is)
    (case v0 => kit_is)
    (case x0 => kts_exm)
    (case o1 => k_exc)
    (case g1_0 => k_is)
    (case g1_1 => k_is)
    (case g1_2 => k_is)
    (case g1_3 => k_is)
    (case g1_4 => k_is)
    (case t1_0 => kit_is)
    (case t1_1 => kit_is)
    (case t1_2 => kit_is)
    (case t1_3 => kit_is)
    (case t1_4 => kit_is)
    (case t1_5 => kit_is)
    (case t1_6 => kit_is)
    (case v1 => kit_is)
    (case x1 => kts_exm)
    (case o2 => k_exc)
    (case g2_0 => k_is)
    (case g2_1 => k_is)
    (case g2_2 => k_is)
    (case g2_3 => k_is)
    (case g2_4 => k_is)
    (case t2_0 => kit_is)
    (case t2_1 => kit_is)
    (case t2_2 => kit_is)
    (case t2_3 => kit_is)
    (case t2_4 => kit_is)
    (case t2_5 => kit_is)
    (case t2_6 => kit_is)
    (case v2 => kit_is)
    (case x2 => kts_exm)
    (case o3 => k_exc)
    (case g3_0 => k_is)
    (case g3_1 => k_is)
    (case g3_2 => k_is)
    (case g3_3 => k_is)
    (case g3_4 => k_is)
    (case t3_0 => kit_is)
    (case t3_1 => kit_is)
    (case t3_2 => kit_is)
    (case t3_3 => kit_is)
    (case t3_4 => kit_is)
    (case t3_5 => kit_is)
    (case t3_6 => kit_is)
    (case v3 => kit_is)
    (case x3 => kts_exm)
    (case o4 => k_exc)
    (case g4_0 => k_is)
    (case g4_1 => k_is)
    (case g4_2 => k_is)
    (case g4_3 => k_is)
    (case g4_4 => k_is)
    (case t4_0 => kit_is)
    (case t4_1 => kit_is)
    (case t4_2 => kit_is)
    (case t4_3 => kit_is)
    (case t4_4 => kit_is)
    (case t4_5 => kit_is)
    (case t4_6 => kit_is)
    (case v4 => kit_is)
    (case x4 => kts_exm)
    (case o6 => k_exc)
    (case g6_0 => k_is)
    (case g6_1 => k_is)
    (case g6_2 => k_is)
    (case g6_3 => k_is)
    (case g6_4 => k_is)
    (case t6_0 => kit_is)
    (case t6_1 => kit_is)
    (case t6_2 => kit_is)
    (case t6_3 => kit_is)
    (case t6_4 => kit_is)
    (case t6_5 => kit_is)
    (case t6_6 => kit_is)
    (case v6 => kit_is)
    (case x6 => kts_exm)

import PyProof.Rows.All
import Wide.All
import OpenK.AllK
import Wide.FinOn
import Lean
import PyProof.EqAt
import PyProof.EqKinds
import PyProof.TupleCall
import PySem.Challenge.RW_linkpay_k08_whole_all_amounts_by_few
set_option Elab.async false
set_option linter.all false
set_option maxRecDepth 100000
set_option maxHeartbeats 4000000
namespace L2
open PySem PySem.Spec PyProof.Rows

/-- a key: an int or a str -/
abbrev Key := Sum Int Str
def keyIs : Key → Value → Bool
  | .inl k, v => Value.isInt k v
  | .inr x, v => Value.isStrOf x v
def keyH (w : World) : Key → Int
  | .inl k => hashInt k
  | .inr x => hashStr w x
theorem keyIs_shape : ∀ {k : Key} {v : Value}, keyIs k v = true → (∃ i t, k = Sum.inl i ∧ v = Value.int i t) ∨ (∃ x t, k = Sum.inr x ∧ v = Value.str x t)
  | .inl i, v, h => by
    obtain ⟨t, e⟩ := Value.isInt_shape (k := i) (v := v) h
    exact .inl ⟨i, t, rfl, e⟩
  | .inr x, v, h => by
    obtain ⟨t, e⟩ := Value.isStrOf_shape (x := x) (v := v) h
    exact .inr ⟨x, t, rfl, e⟩
theorem key_ll (a b : Int) : decide ((Sum.inl a : Key) = Sum.inl b) = (a == b) := by
  by_cases e : a = b
  · subst e; simp
  · have h : ¬ (Sum.inl a : Key) = Sum.inl b := fun q => e (Sum.inl.inj q)
    rw [decide_eq_false h]
    exact (beq_eq_false_iff_ne.mpr e).symm
theorem key_rr (a b : Str) : decide ((Sum.inr a : Key) = Sum.inr b) = decide (a = b) := by
  by_cases e : a = b
  · subst e; simp
  · have h : ¬ (Sum.inr a : Key) = Sum.inr b := fun q => e (Sum.inr.inj q)
    rw [decide_eq_false h, decide_eq_false e]
theorem key_lr (a : Int) (b : Str) : decide ((Sum.inl a : Key) = Sum.inr b) = false := decide_eq_false (fun q => nomatch q)
theorem key_rl (a : Str) (b : Int) : decide ((Sum.inr a : Key) = Sum.inl b) = false := decide_eq_false (fun q => nomatch q)

def mixKind (prog : Program) (w : World) : PySem.KeyKind prog w Key where
  is := keyIs
  hash := keyH w
  inj := fun v a b ha hb => by
    rcases keyIs_shape ha with ⟨i, t, rfl, rfl⟩ | ⟨x, t, rfl, rfl⟩
    · rcases keyIs_shape hb with ⟨j, u, rfl, e⟩ | ⟨y, u, rfl, e⟩
      · injection e with e1 _; rw [e1]
      · exact nomatch e
    · rcases keyIs_shape hb with ⟨j, u, rfl, e⟩ | ⟨y, u, rfl, e⟩
      · exact nomatch e
      · injection e with e1 _; rw [e1]
  byValue := fun k v h => by
    rcases keyIs_shape h with ⟨i, t, rfl, rfl⟩ | ⟨x, t, rfl, rfl⟩ <;> rfl
  pyHash := fun hv h => by
    rcases keyIs_shape hv with ⟨i, t, rfl, rfl⟩ | ⟨x, t, rfl, rfl⟩
    · exact wpAny_pyHash_int h
    · exact wpAny_pyHash_str h
  eqBool := fun hu hv h => by
    rcases keyIs_shape hu with ⟨i, t, rfl, rfl⟩ | ⟨x, t, rfl, rfl⟩
    · rcases keyIs_shape hv with ⟨j, u, rfl, rfl⟩ | ⟨y, u, rfl, rfl⟩
      · rw [key_ll] at h; exact wpAny_eqBool_int h
      · rw [key_lr] at h; exact SeqAt.EqAt.int_str i t y u _ _ _ _ h
    · rcases keyIs_shape hv with ⟨j, u, rfl, rfl⟩ | ⟨y, u, rfl, rfl⟩
      · rw [key_rl] at h; exact SeqAt.EqAt.str_int x t j u _ _ _ _ h
      · rw [key_rr] at h; exact wpAny_eqBool_str h
  «strs» := fun k x t v h => by
    rcases keyIs_shape h with ⟨i, u, rfl, e⟩ | ⟨y, u, rfl, e⟩
    · exact nomatch e
    · injection e with e1 _
      subst e1
      cases v <;> rfl

end L2

namespace L2
open PySem PySem.Spec PyProof.Rows

/-- a value, without the heap -/
inductive V where
  | non | bl (b : Bool) | int (i : Int) | str (x : Str) | byt (b : Array UInt8) | flt (b : UInt64) | ref (a : Addr) | ty (n : String)
  deriving DecidableEq

def RelV : V → Value → Prop
  | .non, u => u = Value.none
  | .bl b, u => u = Value.bool b
  | .int i, u => ∃ t, u = Value.int i t
  | .str x, u => ∃ t, u = Value.str x t
  | .byt b, u => ∃ t, u = Value.bytes b t
  | .flt b, u => ∃ t, u = Value.float b t
  | .ref a, u => u = Value.ref a
  | .ty n, u => u = Value.type n

abbrev Vals : List V → List Value → Prop := Paired RelV
theorem Vals.length {xs : List V} {us : List Value} (r : Vals xs us) : xs.length = us.length := Paired.length r
theorem Vals.get : ∀ {xs : List V} {us : List Value} {i : Nat} {x : V}, Vals xs us → xs[i]? = some x → ∃ u, us[i]? = some u ∧ RelV x u
  | _, _, _, _, .nil, e => by simp at e
  | _, _, 0, _, .cons r _, e => by simp at e; subst e; exact ⟨_, rfl, r⟩
  | _, _, i + 1, x, .cons _ t, e => by
    obtain ⟨u, h1, h2⟩ := Vals.get (i := i) (x := x) t (by simpa using e)
    exact ⟨u, by simpa using h1, h2⟩
theorem Vals.append : ∀ {xs ys : List V} {us ws : List Value}, Vals xs us → Vals ys ws → Vals (xs ++ ys) (us ++ ws)
  | _, _, _, _, .nil, s => s
  | _, _, _, _, .cons r t, s => .cons r (Vals.append t s)
theorem Vals.take : ∀ {xs : List V} {us : List Value} (n : Nat), Vals xs us → Vals (xs.take n) (us.take n)
  | _, _, 0, _ => .nil
  | _, _, _ + 1, .nil => .nil
  | _, _, n + 1, .cons r t => .cons r (Vals.take n t)
theorem Vals.drop : ∀ {xs : List V} {us : List Value} (n : Nat), Vals xs us → Vals (xs.drop n) (us.drop n)
  | _, _, 0, r => r
  | _, _, _ + 1, .nil => .nil
  | _, _, n + 1, .cons _ t => Vals.drop n t

def RelO : Option V → Option Value → Prop
  | some v, some u => RelV v u
  | none, none => True
  | _, _ => False
def KV {κ : Type} : List (κ × V) → List (κ × Value) → Prop := Paired fun (p : κ × V) (q : κ × Value) => p.1 = q.1 ∧ RelV p.2 q.2

/-- a key of a dict (00_mix): an int or a text -/
def kV : Key → V
  | .inl i => .int i
  | .inr x => .str x

/-- what stands at a tracked address -/
inductive HO where
  /-- a list -/
  | lst (xs : List V)
  /-- a tuple (never changes) -/
  | tup (xs : List V)
  /-- a dict whose keys are ints and texts; one whose keys are tuples of ints and texts (the empty one is both) -/
  | dK (kvs : List (Key × V)) | dT (kvs : List (List Key × V))
  /-- a set of ints: its members, its size -/
  | set (S : Int → Bool) (n : Nat)
  /-- an instance of the class at C, its dict at dx, its attributes -/
  | ins (C dx : Addr) (fs : List (Str × V))
  /-- the dict of the instance at x -/
  | own (x : Addr)
  /-- the dict of an exception -/
  | xd (fs : List (Str × V))
  /-- a bound method, f of x -/
  | met (f x : Addr)
  /-- a range object lo, lo + 1, .. below hi -/
  | rng (lo hi : Int)
  /-- a thing that is known to the object (the script; a dict while a loop walks it): read, never written while it is so -/
  | frz (o : Obj) (u : HO)
  /-- a code object's table -/
  | tbl (ps : Array Value)
  /-- any other thing, by what is true of its one object (a def of one's own: SetO a S n := HO.ext fun h => ..) -/
  | ext (φ : Heap → Prop)

abbrev Hp := Addr → Option HO
def upd (H : Hp) (a : Addr) (o : HO) : Hp := fun b => if b = a then some o else H b
theorem upd_same {H : Hp} {a : Addr} {o : HO} : upd H a o a = some o := by unfold upd; rw [if_pos rfl]
theorem upd_ne {H : Hp} {a b : Addr} {o : HO} (h : b ≠ a) : upd H a o b = H b := by unfold upd; rw [if_neg h]
/-- two objects of different content stand apart -/
theorem ne_of {H : Hp} {a b : Addr} {o u : HO} (h : H a = some o) (h' : H b = some u) (d : o ≠ u) : a ≠ b := by
  intro e; subst e; rw [h] at h'; exact d (Option.some.inj h')
theorem ne_of_none {H : Hp} {a b : Addr} {o : HO} (h : H a = some o) (h' : H b = none) : a ≠ b := by
  intro e; subst e; rw [h] at h'; cases h'

section
variable (P : Program) (w : World)
def ObjOk (H : Hp) (h : Heap) (a : Addr) : HO → Prop
  | .lst xs => xs.length ≤ sizeLine ∧ ∃ (its : List Value) (n : Nat), Vals xs its ∧ h.get? a = some { cls := .type "list", data := .seq its.toArray n }
  | .tup xs => xs.length ≤ sizeLine ∧ ∃ its : List Value, Vals xs its ∧ IsTup h a its.toArray
  | .dK kvs => kvs.length ≤ sizeLine ∧ (a == sysModules) = false ∧ ∃ vs, KV kvs vs ∧ h.DictOf (mixKind P w) a vs
  | .dT kvs => kvs.length ≤ sizeLine ∧ (a == sysModules) = false ∧ ∃ xs : List (List Key × Addr × Value),
      Paired (fun (p : List Key × V) (q : List Key × Addr × Value) => p.1 = q.1 ∧ H q.2.1 = some (.tup (p.1.map kV)) ∧ RelV p.2 q.2.2) kvs xs ∧
      ∃ o es ep, h.get? a = some o ∧ o.ExactDict ∧ o.data = .dict es ep ∧ es.toList = xs.map (entryOfKey (tupleKind (mixKind P w))) ∧ (xs.map (·.1)).Nodup
  | .set S n => h.SetOf (intKind P w) a S n
  | .ins C dx fs => H dx = some (.own a) ∧ fs.length ≤ 1000 ∧ dx ≠ a ∧ h.get? a = some (PySem.W.instObj C dx) ∧
      ∃ mA, h.Ns1 dx mA ∧ (∀ f, RelO (fs.lookup f) (mA f)) ∧ PySem.Within mA (fs.map (·.1))
  | .own _ => ∃ o, h.get? a = some o
  | .xd fs => ∃ mA, h.Ns1 a mA ∧ ∀ f, RelO (fs.lookup f) (mA f)
  | .rng lo hi => ∃ t u v, h.get? a = some { cls := .type "range", data := .fields #[.int lo t, .int hi u, .int 1 v] }
  | .frz o u => h.get? a = some o ∧ ObjOk H h a u
  | .tbl ps => h.get? a = some { cls := .none, data := .fields ps }
  | .met f x => h.get? a = some (PySem.W.methodObj (.ref f) (.ref x))
  | .ext φ => φ h ∧ (∃ o, h.get? a = some o) ∧ ∀ h1 h2 : Heap, φ h1 → (∀ o, h1.get? a = some o → h2.get? a = some o) → φ h2
/-- the abstract heap is held -/
def HOk (H : Hp) (h : Heap) : Prop := ∀ a o, H a = some o → ObjOk P w H h a o
end

section
variable {P : Program} {w : World} {H H' : Hp} {h h' : Heap} {a : Addr} {o : HO}
theorem ObjOk.lt (x : ObjOk P w H h a o) : a < h.objs.size := by
  cases o with
  | lst xs => obtain ⟨_, _, _, _, e⟩ := x; exact Heap.lt_size e
  | tup xs => obtain ⟨_, _, _, p⟩ := x; exact p.lt
  | dK kvs => obtain ⟨_, _, _, _, o, _, _, e, _⟩ := x; exact Heap.lt_size e
  | dT kvs => obtain ⟨_, _, _, _, o, _, _, e, _⟩ := x; exact Heap.lt_size e
  | set S n => obtain ⟨o, _, _, _, e, _⟩ := x; exact Heap.lt_size e
  | ins C dx fs => obtain ⟨_, _, _, e, _⟩ := x; exact Heap.lt_size e
  | own y => obtain ⟨_, e⟩ := x; exact Heap.lt_size e
  | xd fs => obtain ⟨_, ⟨_, _, _, e, _⟩, _⟩ := x; exact Heap.lt_size e
  | rng lo hi => obtain ⟨_, _, _, e⟩ := x; exact Heap.lt_size e
  | frz ob u => obtain ⟨e, _⟩ := x; exact Heap.lt_size e
  | tbl ps => exact Heap.lt_size (show h.get? a = some _ from x)
  | met f y => exact Heap.lt_size (show h.get? a = some _ from x)
  | ext φ => obtain ⟨_, ⟨_, e⟩, _⟩ := x; exact Heap.lt_size e
theorem Paired.mapP {α β : Type} {F G : α → β → Prop} : ∀ {l₁ : List α} {l₂ : List β}, Paired F l₁ l₂ → (∀ a b, F a b → G a b) → Paired G l₁ l₂
  | _, _, .nil, _ => .nil
  | _, _, .cons r t, f => .cons (f _ _ r) (Paired.mapP t f)
/-- what an object's description leans on: its own object, its own dict, the tuples -/
theorem ObjOk.stay (x : ObjOk P w H h a o) (k : ∀ b u, (b = a ∨ H b = some (.own a)) → h.get? b = some u → h'.get? b = some u)
    (ho : ∀ b, H b = some (.own a) → H' b = some (.own a)) (ht : ∀ b xs, H b = some (.tup xs) → H' b = some (.tup xs)) : ObjOk P w H' h' a o := by
  induction o with
  | lst xs => obtain ⟨z, its, n, r, e⟩ := x; exact ⟨z, its, n, r, k _ _ (.inl rfl) e⟩
  | tup xs => obtain ⟨z, its, r, ob, e, c⟩ := x; exact ⟨z, its, r, ob, k _ _ (.inl rfl) e, c⟩
  | dK kvs => obtain ⟨z, y, vs, r, ob, es, ep, e, c⟩ := x; exact ⟨z, y, vs, r, ob, es, ep, k _ _ (.inl rfl) e, c⟩
  | dT kvs =>
    obtain ⟨z, y, xs, r, ob, es, ep, e, c⟩ := x
    exact ⟨z, y, xs, Paired.mapP r fun p q z => ⟨z.1, ht _ _ z.2.1, z.2.2⟩, ob, es, ep, k _ _ (.inl rfl) e, c⟩
  | set S n => obtain ⟨ob, es, ep, t, e, c⟩ := x; exact ⟨ob, es, ep, t, k _ _ (.inl rfl) e, c⟩
  | ins C dx fs =>
    obtain ⟨d, z, ne, e, mA, ⟨od, es, ep, e2, c⟩, r⟩ := x
    exact ⟨ho _ d, z, ne, k _ _ (.inl rfl) e, mA, ⟨od, es, ep, k _ _ (.inr d) e2, c⟩, r⟩
  | own y => obtain ⟨ob, e⟩ := x; exact ⟨ob, k _ _ (.inl rfl) e⟩
  | xd fs => obtain ⟨mA, ⟨od, es, ep, e, c⟩, r⟩ := x; exact ⟨mA, ⟨od, es, ep, k _ _ (.inl rfl) e, c⟩, r⟩
  | rng lo hi => obtain ⟨t, u, v, e⟩ := x; exact ⟨t, u, v, k _ _ (.inl rfl) e⟩
  | frz ob u ih => obtain ⟨e, q⟩ := x; exact ⟨k _ _ (.inl rfl) e, ih q⟩
  | tbl ps =>
    have e : h.get? a = some { cls := .none, data := .fields ps } := x
    show h'.get? a = some { cls := .none, data := .fields ps }
    exact k a _ (.inl rfl) e
  | met f y =>
    have e : h.get? a = some (PySem.W.methodObj (.ref f) (.ref y)) := x
    show h'.get? a = some (PySem.W.methodObj (.ref f) (.ref y))
    exact k a _ (.inl rfl) e
  | ext φ => obtain ⟨p, ⟨o, e⟩, st⟩ := x; exact ⟨st _ _ p fun o q => k _ _ (.inl rfl) q, ⟨o, k _ _ (.inl rfl) e⟩, st⟩
theorem HOk.lt (x : HOk P w H h) (e : H a = some o) : a < h.objs.size := (x a o e).lt
theorem HOk.fresh (x : HOk P w H h) (e : h.objs.size ≤ a) : H a = none := by
  cases q : H a with
  | none => rfl
  | some u => exact absurd (Nat.lt_of_lt_of_le (x.lt q) e) (Nat.lt_irrefl _)
/-- every object of the heap is kept -/
theorem HOk.kept (x : HOk P w H h) (k : ∀ b u, h.get? b = some u → h'.get? b = some u) : HOk P w H h' := fun a o e =>
  (x a o e).stay (fun b u _ q => k b u q) (fun _ q => q) fun _ _ q => q
/-- a new object is laid and tracked -/
theorem HOk.laid (x : HOk P w H h) (k : ∀ b u, h.get? b = some u → h'.get? b = some u) (hp : h.objs.size ≤ a) (new : ObjOk P w (upd H a o) h' a o) : HOk P w (upd H a o) h' := fun b u e => by
  have hn := x.fresh hp
  by_cases hb : b = a
  · subst hb; rw [upd_same] at e; cases e; exact new
  · rw [upd_ne hb] at e
    exact (x b u e).stay (fun c v _ q => k c v q) (fun c q => by rw [upd_ne (ne_of_none q hn)]; exact q) fun c xs q => by rw [upd_ne (ne_of_none q hn)]; exact q
end

/-- what may be read as u: it is u, or a known u -/
def Rd (H : Hp) (a : Addr) (u : HO) : Prop := H a = some u ∨ ∃ o, H a = some (.frz o u)
theorem Rd.ok {P : Program} {w : World} {H : Hp} {h : Heap} {a : Addr} {u : HO} (r : Rd H a u) (x : HOk P w H h) : ObjOk P w H h a u := by
  rcases r with r | ⟨o, r⟩
  · exact x a u r
  · obtain ⟨_, q⟩ := x a _ r
    exact q
/-- what may be written -/
def Mut : Option HO → Prop
  | some (.lst _) => True
  | some (.dK _) => True
  | some (.dT _) => True
  | some (.set _ _) => True
  | some (.ins _ _ _) => True
  | some (.ext _) => True
  | _ => False
section
variable {P : Program} {w : World} {H : Hp} {h h' : Heap} {x e : Addr} {o' : HO}
/-- the object at e is changed: x itself, or the dict of the instance x -/
theorem HOk.write (ok : HOk P w H h) (mu : Mut (H x)) (he : e = x ∨ H e = some (.own x)) (k : ∀ b u, b ≠ e → h.get? b = some u → h'.get? b = some u) (heo : ∃ u, h'.get? e = some u)
    (new : ObjOk P w (upd H x o') h' x o') : HOk P w (upd H x o') h' := fun b u q => by
  have nown : ∀ c y, H c = some (.own y) → c ≠ x := fun c y r z => by subst z; rw [r] at mu; exact mu
  have ntup : ∀ c xs, H c = some (.tup xs) → c ≠ x := fun c xs r z => by subst z; rw [r] at mu; exact mu
  by_cases hb : b = x
  · subst hb; rw [upd_same] at q; cases q; exact new
  · rw [upd_ne hb] at q
    by_cases hbe : b = e
    · have q' : H b = some (.own x) := by
        rcases he with z | z
        · exact absurd (hbe.trans z) hb
        · rw [hbe]; exact z
      rw [q] at q'; cases q'
      obtain ⟨v, hv⟩ := heo
      exact ⟨v, by rw [hbe]; exact hv⟩
    · refine (ok b u q).stay (fun c v hc r => k c v ?_ r) (fun c r => by rw [upd_ne (nown c b r)]; exact r) fun c xs r => by rw [upd_ne (ntup c xs r)]; exact r
      rcases hc with rfl | hc
      · exact hbe
      · rintro rfl
        rcases he with z | z
        · exact nown c b hc z
        · rw [hc] at z; cases z; exact hb rfl
end

/-! ### kept unless tracked; of the frames at fs (the callers') the slots may change (an exception that passes writes there); of the records at ex (iterators) nothing is said -/
structure Un (fs ex : List Addr) (H H' : Hp) (h h' : Heap) : Prop where
  keep : ∀ b o, h.get? b = some o → H b = none → b ∉ fs → b ∉ ex → h'.get? b = some o
  slot : ∀ b o, h.get? b = some o → H b = none → b ∈ fs → b ∉ ex → ∃ sl, h'.get? b = some { o with slots := sl }
  free : ∀ b o, h.get? b = some o → H b = none → b ∉ ex → H' b = none
  there : ∀ b o, h.get? b = some o → b ∉ ex → ∃ o', h'.get? b = some o'
  tups : ∀ b xs, H b = some (.tup xs) → H' b = some (.tup xs)
  frzs : ∀ b o u, H b = some (.frz o u) → H' b = some (.frz o u)
  tbls : ∀ b ps, H b = some (.tbl ps) → ∃ more, H' b = some (.tbl (ps ++ more))
section
variable {fs fs' ex ex' : List Addr} {H H1 H2 : Hp} {h h1 h2 h' : Heap} {a x e : Addr} {o : HO}
theorem Un.any (u : Un fs ex H H1 h h1) {b : Addr} {ob : Obj} (q : h.get? b = some ob) (n : H b = none) (hx : b ∉ ex) : ∃ sl, h1.get? b = some { ob with slots := sl } := by
  by_cases hb : b ∈ fs
  · exact u.slot b ob q n hb hx
  · exact ⟨ob.slots, u.keep b ob q n hb hx⟩
theorem Un.kept (k : ∀ b u, h.get? b = some u → h'.get? b = some u) : Un fs ex H H h h' :=
  ⟨fun b ob q _ _ _ => k b ob q, fun b ob q _ _ _ => ⟨ob.slots, k b ob q⟩, fun _ _ _ n _ => n, fun b ob q _ => ⟨ob, k b ob q⟩, fun _ _ q => q, fun _ _ _ q => q, fun _ ps q => ⟨#[], by rw [q]; simp⟩⟩
theorem Un.refl : Un fs ex H H h h := Un.kept fun _ _ q => q
theorem Un.laid (k : ∀ b u, h.get? b = some u → h'.get? b = some u) (hp : h.objs.size ≤ a) (hn : H a = none) : Un fs ex H (upd H a o) h h' where
  keep := fun b u q _ _ _ => k b u q
  slot := fun b u q _ _ _ => ⟨u.slots, k b u q⟩
  free := fun b u q n _ => by rw [upd_ne (Nat.ne_of_lt (Nat.lt_of_lt_of_le (Heap.lt_size q) hp))]; exact n
  there := fun b u q _ => ⟨u, k b u q⟩
  tups := fun b xs q => by rw [upd_ne (ne_of_none q hn)]; exact q
  frzs := fun b u xs q => by rw [upd_ne (ne_of_none q hn)]; exact q
  tbls := fun b ps q => ⟨#[], by rw [upd_ne (ne_of_none q hn), q]; simp⟩
theorem Un.write (mu : Mut (H x)) (he : e = x ∨ H e = some (.own x)) (k : ∀ b u, b ≠ e → h.get? b = some u → h'.get? b = some u) (heo : ∃ u, h'.get? e = some u) : Un fs ex H (upd H x o) h h' := by
  have hx : ∀ b, H b = none → b ≠ x := fun b n z => by subst z; rw [n] at mu; exact mu
  have hb : ∀ b, H b = none → b ≠ e := fun b n z => by
    subst z
    rcases he with r | r
    · exact hx b n r
    · rw [n] at r; cases r
  have hm : ∀ b u, H b = some u → ¬ Mut (some u) → b ≠ x := fun b u q nm z => by subst z; rw [q] at mu; exact nm mu
  refine ⟨fun b u q n _ _ => k b u (hb b n) q, fun b u q n _ _ => ⟨u.slots, k b u (hb b n) q⟩, fun b u q n _ => by rw [upd_ne (hx b n)]; exact n, fun b u q _ => ?_,
    fun b xs q => by rw [upd_ne (hm b _ q fun z => z)]; exact q, fun b u xs q => by rw [upd_ne (hm b _ q fun z => z)]; exact q, fun b ps q => ⟨#[], by rw [upd_ne (hm b _ q fun z => z), q]; simp⟩⟩
  by_cases hbe : b = e
  · subst hbe; exact heo
  · exact ⟨u, k b u hbe q⟩
end

/-! ### the heap without what is tracked -/
def trk (h : Heap) (H : Hp) : List Addr := (List.range h.objs.size).filter fun a => (H a).isSome
def hidT (h : Heap) (H : Hp) : Heap := PySem.W.hideAll h (trk h H)
theorem hidT_size (h : Heap) (H : Hp) : (hidT h H).objs.size = h.objs.size := PySem.W.hideAll_size _ _
theorem hidT_get {h : Heap} {H : Hp} {b : Addr} {o : Obj} (e : h.get? b = some o) (n : H b = none) : (hidT h H).get? b = some o :=
  PySem.W.hideAll_get _ e fun hm => by
    have q : (H b).isSome = true := (List.mem_filter.mp hm).2
    rw [n] at q; simp at q
theorem of_hidT {h : Heap} {H : Hp} {b : Addr} {o : Obj} (e : (hidT h H).get? b = some o) : h.get? b = some o ∧ H b = none := by
  have e' : h.get? b = some o := PySem.W.of_hideAll (trk h H) e
  refine ⟨e', ?_⟩
  cases q : H b with
  | none => rfl
  | some x =>
    have hm : b ∈ trk h H := List.mem_filter.mpr ⟨List.mem_range.mpr (Heap.lt_size e'), by simp [q]⟩
    have z : (hidT h H).get? b = none := PySem.W.hideAll_none (trk h H) hm
    rw [z] at e; cases e

/-! ### OpenK's ledger, filled with every new object but one -/
def allNews (g h : Heap) (L : Addr) : List (Addr × Obj) := (List.range h.objs.size).filterMap fun a => if a = L ∨ (g.get? a).isSome = true then none else (h.get? a).map fun o => (a, o)
def rest (g h : Heap) (L d : Addr) : List (Addr × Obj) := (allNews g h L).filter fun p => decide (p.1 ≠ d)
end L2

namespace L2
open PySem PySem.Spec PyProof.Rows

/-- the module's facts, over the base: the heap at the law's entry without what is tracked there -/
structure Mod (K : PySem.W.Frag) (mg : Str → Option Value) (base : Heap) : Prop where
  kin : K.In base
  glob : base.Ns mainGlobals mg
  blt : ∃ mb, base.Ns builtinsNs mb ∧ ∀ x : Str, x ≠ "__name__" → mb x = bootBuiltins x
  nolimit : base.NoLimit

/-- the context: a def's body (or a comprehension's block) running. base: fixed through the whole law; s₀, H₀: the entry; outer: the frames whose slots others may change (a def's callers); stack: all frames that run;
   ex: iterators that were made ahead of the entry and are walked here (a comprehension's); fn: the names whose cells were made at the entry (a def: all; a comprehension's block: its own); calm: not within an except suite; pn: pins that every state bears; xe: what is wanted of an exception that leaves the code -/
structure Cx where
  prog : Program
  w : World
  K : PySem.W.Frag
  mg : Str → Option Value
  base : Heap
  A : Around
  N : List Str
  s₀ : Shared
  H₀ : Hp
  env : Env
  outer : List Env
  stack : List Env
  ex : List Addr
  fn : Str → Bool
  calm : Bool
  pn : List (Addr × Obj)
  xe : Value → Shared → Prop
/-- the callers' frames -/
def frs (l : List Env) : List Addr := l.filterMap (·.frame)
abbrev Cx.fs (X : Cx) : List Addr := frs X.outer

def Vis (sc : Scope) (x : Str) : Prop := sc.names.lookup x = some .local ∨ sc.names.lookup x = some .cell ∨ sc.names.lookup x = some .free
def Loc (sc : Scope) (x : Str) : Prop := sc.names.lookup x = some .local ∨ sc.names.lookup x = some .cell
def Look (env : Env) (h : Heap) (m : Str → Option Value) (x : Str) (u : Value) : Prop :=
  (env.kindOf x = some .local ∧ m x = some u) ∨ ((env.kindOf x = some .cell ∨ env.kindOf x = some .free) ∧ ∃ c, env.cells.lookup x = some c ∧ h.IsCell c (some u))

structure Cx.Ok (X : Cx) : Prop where
  mod : Mod X.K X.mg X.base
  kind : X.env.scope.kind = .function
  glob : X.env.globals = mainGlobals
  blt : X.env.builtins = builtinsNs
  above : X.s₀.heap.objs.size ≤ X.env.locals
  inj : ∀ x y c, X.env.cells.lookup x = some c → X.env.cells.lookup y = some c → x = y
  has : ∀ x, (X.env.kindOf x = some .cell ∨ X.env.kindOf x = some .free) → ∃ c, X.env.cells.lookup x = some c
  cab : ∀ x c, X.fn x = true → X.env.cells.lookup x = some c → X.s₀.heap.objs.size ≤ c
  hd : X.calm = true → X.A.handled = none
  frames : X.A.frames = some X.stack
  stk : X.stack = X.outer ∨ (X.stack = X.env :: X.outer ∧ X.env.frame = some X.env.locals)
  exf : ∀ b ∈ X.ex, b ≠ X.env.locals ∧ ∀ x c, X.env.cells.lookup x = some c → c ≠ b
  bs : ∀ b o, X.base.get? b = some o → X.s₀.heap.get? b = some o ∧ X.H₀ b = none
  bsz : X.base.objs.size ≤ X.s₀.heap.objs.size
  noex : ∀ b o, X.base.get? b = some o → b ∉ X.ex
  exfs : ∀ b ∈ X.ex, b ∉ X.fs
  funs : X.s₀.heap.FunFrames X.base X.outer
  frf : ∀ b ∈ X.fs, X.H₀ b = none

structure Inv (X : Cx) (pins : List (Addr × Obj)) (σ : List (Option V)) (H : Hp) (s : Shared) : Prop where
  ok : X.Ok
  os : s.os = X.s₀.os
  bare : AllBare s.gens
  base : Un X.fs X.ex X.H₀ H X.s₀.heap s.heap
  loc : ∃ m, s.heap.Ns X.env.locals m ∧ ∀ (i : Nat) (x : Str) (v : V), X.N[i]? = some x → σ[i]? = some (some v) → Vis X.env.scope x → ∃ u, RelV v u ∧ Look X.env s.heap m x u
  cell : ∀ x c, X.env.cells.lookup x = some c → ∃ v, s.heap.IsCell c v
  free : H X.env.locals = none
  freeC : ∀ x c, X.env.cells.lookup x = some c → H c = none
  pin : ∀ p ∈ X.pn ++ pins, s.heap.get? p.1 = some p.2 ∧ H p.1 = none ∧ p.1 ≠ X.env.locals ∧ p.1 ∉ X.fs ∧ ∀ v, p.2.data ≠ .cell v
  hok : HOk X.prog X.w H s.heap
  len : σ.length = X.N.length

section
variable {X : Cx} {pins : List (Addr × Obj)} {σ : List (Option V)} {H H' : Hp} {s : Shared} {h' : Heap}

theorem Cx.Ok.nofr (ok : X.Ok) {b : Addr} {o : Obj} (e : X.base.get? b = some o) : b ∉ X.fs := fun hb => by
  have := (ok.funs.mem hb).1
  rw [e] at this; cases this
theorem Inv.bs (I : Inv X pins σ H s) : ∀ b o, X.base.get? b = some o → s.heap.get? b = some o ∧ H b = none := fun b o e =>
  ⟨I.base.keep b o (I.ok.bs b o e).1 (I.ok.bs b o e).2 (I.ok.nofr e) (I.ok.noex b o e), I.base.free b o (I.ok.bs b o e).1 (I.ok.bs b o e).2 (I.ok.noex b o e)⟩
theorem Inv.bk (I : Inv X pins σ H s) : ∀ b o, X.base.get? b = some o → s.heap.get? b = some o := fun b o e => (I.bs b o e).1
theorem Inv.mod (I : Inv X pins σ H s) : Mod X.K X.mg X.base := I.ok.mod
theorem Inv.kIn (I : Inv X pins σ H s) : X.K.In s.heap := I.ok.mod.kin.keeps I.bk
theorem Inv.lt (I : Inv X pins σ H s) : X.env.locals < s.heap.objs.size := let ⟨_, hn, _⟩ := I.loc; hn.lt
theorem Inv.sz (I : Inv X pins σ H s) : X.s₀.heap.objs.size ≤ s.heap.objs.size := Nat.le_trans I.ok.above (Nat.le_of_lt I.lt)
theorem Inv.nofs (I : Inv X pins σ H s) {a : Addr} (h : s.heap.objs.size ≤ a) : a ∉ X.fs := fun hb => by
  obtain ⟨_, o, ho, _⟩ := I.ok.funs.mem hb
  exact absurd (Nat.lt_of_lt_of_le (Heap.lt_size ho) (Nat.le_trans I.sz h)) (Nat.lt_irrefl _)
theorem Inv.cne (I : Inv X pins σ H s) : ∀ x c, X.env.cells.lookup x = some c → c ≠ X.env.locals := fun x c e z => by
  obtain ⟨v, o, ho, hd⟩ := I.cell x c e
  obtain ⟨m, ⟨o', es, ep, ho', hd', _⟩, _⟩ := I.loc
  rw [z, ho'] at ho; cases ho; rw [hd'] at hd; cases hd
theorem Inv.funs (I : Inv X pins σ H s) : s.heap.FunFrames X.base X.outer := by
  have all : ∀ (l : List Env), (∀ b ∈ frs l, b ∈ X.fs) → X.s₀.heap.FunFrames X.base l → s.heap.FunFrames X.base l := by
    intro l
    induction l with
    | nil => intro _ _; trivial
    | cons env r ih =>
      intro hs hl
      obtain ⟨hk, ⟨L, o, hf, hn, ho, hd⟩, hr⟩ := hl
      have hL : L ∈ X.fs := hs L (by unfold frs; rw [List.filterMap_cons, hf]; exact List.mem_cons_self)
      obtain ⟨sl, e⟩ := I.base.slot L o ho (I.ok.frf L hL) hL fun z => I.ok.exfs L z hL
      exact ⟨hk, ⟨L, _, hf, hn, e, hd⟩, ih (fun b hb => hs b (by unfold frs; rw [List.filterMap_cons, hf]; exact List.mem_cons_of_mem _ hb)) hr⟩
  exact all X.outer (fun _ hb => hb) I.ok.funs

/-- the frames that run, for a call -/
theorem Inv.stack (I : Inv X pins σ H s) : s.heap.FunFrames X.base X.stack := by
  rcases I.ok.stk with e | ⟨e, hf⟩
  · rw [e]; exact I.funs
  · rw [e]
    obtain ⟨m, hn, _⟩ := I.loc
    refine .cons (by rw [I.ok.kind]; decide) hf hn ?_ I.funs
    exact Heap.get?_none_of_le (Nat.le_trans I.ok.bsz I.ok.above)
theorem Inv.stkSub (I : Inv X pins σ H s) : ∀ b ∈ frs X.stack, b ∈ X.env.locals :: X.fs := fun b hb => by
  rcases I.ok.stk with e | ⟨e, hf⟩
  · rw [e] at hb; exact List.mem_cons_of_mem _ hb
  · rw [e] at hb
    unfold frs at hb
    rw [List.filterMap_cons, hf] at hb
    exact hb
theorem Inv.stkFree (I : Inv X pins σ H s) : ∀ b ∈ frs X.stack, H b = none := fun b hb => by
  rcases List.mem_cons.mp (I.stkSub b hb) with e | hb
  · rw [e]; exact I.free
  · obtain ⟨_, o, ho, _⟩ := I.ok.funs.mem hb
    exact I.base.free b o ho (I.ok.frf b hb) fun z => I.ok.exfs b z hb

/-- THE STEP: the untracked objects but the frame and the records at ch are kept (the callers' frames up to slots), the frame's map is kept, the new abstract heap is held -/
theorem Inv.step {g' : Array GenState} {t' : Nat} {d' : Drawn} {ch : List Addr} (I : Inv X pins σ H s)
    (hch : ∀ b ∈ ch, (b ∈ X.ex ∨ X.s₀.heap.objs.size ≤ b) ∧ b ≠ X.env.locals ∧ (∀ x c, X.env.cells.lookup x = some c → c ≠ b) ∧ ∀ p ∈ X.pn ++ pins, p.1 ≠ b)
    (keep : ∀ b o, b ≠ X.env.locals → b ∉ X.fs → b ∉ ch → s.heap.get? b = some o → H b = none → h'.get? b = some o)
    (slot : ∀ b o, b ≠ X.env.locals → b ∈ X.fs → b ∉ ch → s.heap.get? b = some o → H b = none → ∃ sl, h'.get? b = some { o with slots := sl }) (free : ∀ b o, b ∉ ch → s.heap.get? b = some o → H b = none → H' b = none)
    (there : ∀ b o, b ∉ ch → s.heap.get? b = some o → ∃ o', h'.get? b = some o')
    (tups : ∀ b xs, H b = some (.tup xs) → H' b = some (.tup xs)) (frzs : ∀ b o u, H b = some (.frz o u) → H' b = some (.frz o u)) (tbls : ∀ b ps, H b = some (.tbl ps) → ∃ more, H' b = some (.tbl (ps ++ more)))
    (ns : ∀ m, s.heap.Ns X.env.locals m → h'.Ns X.env.locals m) (hok : HOk X.prog X.w H' h') (hg : AllBare g') :
    Inv X pins σ H' { s with heap := h', gens := g', drawn := d', toks := t' } := by
  have neL : ∀ b o, X.s₀.heap.get? b = some o → b ≠ X.env.locals := fun b o e => Nat.ne_of_lt (Nat.lt_of_lt_of_le (Heap.lt_size e) I.ok.above)
  have neC : ∀ b o, X.s₀.heap.get? b = some o → b ∉ X.ex → b ∉ ch := fun b o e hx hb => by
    rcases (hch b hb).1 with z | z
    · exact hx z
    · exact absurd (Nat.lt_of_lt_of_le (Heap.lt_size e) z) (Nat.lt_irrefl _)
  have cellK : ∀ x c, X.env.cells.lookup x = some c → ∀ v, s.heap.IsCell c v → h'.IsCell c v := fun x c e v ⟨o, ho, hd⟩ => by
    have nch : c ∉ ch := fun z => (hch c z).2.2.1 x c e rfl
    by_cases hc : c ∈ X.fs
    · obtain ⟨sl, q⟩ := slot c o (I.cne x c e) hc nch ho (I.freeC x c e)
      exact ⟨_, q, hd⟩
    · exact ⟨o, keep c o (I.cne x c e) hc nch ho (I.freeC x c e), hd⟩
  refine ⟨I.ok, I.os, hg, ⟨fun b o e n hb hx => ?_, fun b o e n hb hx => ?_, fun b o e n hx => ?_, fun b o e hx => ?_, fun b xs e => tups b xs (I.base.tups b xs e), fun b o xs e => frzs b o xs (I.base.frzs b o xs e), fun b ps e => ?_⟩, ?_, fun x c e => ?_, ?_, fun x c e => ?_, fun p hp => ?_, hok, I.len⟩
  · exact keep b o (neL b o e) hb (neC b o e hx) (I.base.keep b o e n hb hx) (I.base.free b o e n hx)
  · obtain ⟨sl, e1⟩ := I.base.slot b o e n hb hx
    obtain ⟨sl', e2⟩ := slot b _ (neL b o e) hb (neC b o e hx) e1 (I.base.free b o e n hx)
    exact ⟨sl', e2⟩
  · obtain ⟨o', e1⟩ := I.base.there b o e hx
    exact free b o' (neC b o e hx) e1 (I.base.free b o e n hx)
  · obtain ⟨o', e1⟩ := I.base.there b o e hx
    exact there b o' (neC b o e hx) e1
  · obtain ⟨m1, e1⟩ := I.base.tbls b ps e
    obtain ⟨m2, e2⟩ := tbls b _ e1
    exact ⟨m1 ++ m2, by rw [e2, Array.append_assoc]⟩
  · obtain ⟨m, hn, hl⟩ := I.loc
    refine ⟨m, ns m hn, fun i x v e1 e2 e3 => ?_⟩
    obtain ⟨u, r, l⟩ := hl i x v e1 e2 e3
    refine ⟨u, r, ?_⟩
    rcases l with l | ⟨k, c, e, z⟩
    · exact .inl l
    · exact .inr ⟨k, c, e, cellK x c e _ z⟩
  · obtain ⟨v, z⟩ := I.cell x c e
    exact ⟨v, cellK x c e v z⟩
  · obtain ⟨m, ⟨o, _, _, ho, _⟩, _⟩ := I.loc
    exact free _ o (fun z => (hch _ z).2.1 rfl) ho I.free
  · obtain ⟨v, o, ho, hd⟩ := I.cell x c e
    exact free c o (fun z => (hch c z).2.2.1 x c e rfl) ho (I.freeC x c e)
  · obtain ⟨e, n, ne, nf, d⟩ := I.pin p hp
    have nch : p.1 ∉ ch := fun z => (hch p.1 z).2.2.2 p hp rfl
    exact ⟨keep p.1 p.2 ne nf nch e n, free p.1 p.2 nch e n, ne, nf, d⟩
/-- .. where the frame's own object is kept too -/
theorem Inv.un {t' : Nat} (I : Inv X pins σ H s) (u : Un X.fs [] H H' s.heap h') (hok : HOk X.prog X.w H' h') : Inv X pins σ H' { s with heap := h', toks := t' } := by
  obtain ⟨m, ⟨o, es, ep, ho, r⟩, _⟩ := id I.loc
  obtain ⟨sl, hL⟩ := u.any ho I.free (by simp)
  exact I.step (g' := s.gens) (d' := s.drawn) (ch := []) (fun _ z => nomatch z) (fun b o _ hb _ e n => u.keep b o e n hb (by simp)) (fun b o _ hb _ e n => u.slot b o e n hb (by simp)) (fun b o _ e n => u.free b o e n (by simp)) (fun b o _ e => u.there b o e (by simp)) u.tups u.frzs u.tbls (fun m' hm => by
    obtain ⟨o', es', ep', ho', r'⟩ := hm
    rw [ho] at ho'; cases ho'
    exact ⟨_, es', ep', hL, r'⟩) hok I.bare
/-- behind a call (or a comprehension's block): the slots of this frame may have changed too, the records at ch may have turned -/
theorem Inv.call {g' : Array GenState} {t' : Nat} {d' : Drawn} {ch : List Addr} (I : Inv X pins σ H s) (u : Un (frs X.stack) ch H H' s.heap h') (hok : HOk X.prog X.w H' h') (hg : AllBare g')
    (hch : ∀ b ∈ ch, (b ∈ X.ex ∨ X.s₀.heap.objs.size ≤ b) ∧ b ≠ X.env.locals ∧ (∀ x c, X.env.cells.lookup x = some c → c ≠ b) ∧ ∀ p ∈ X.pn ++ pins, p.1 ≠ b) :
    Inv X pins σ H' { s with heap := h', gens := g', drawn := d', toks := t' } := by
  obtain ⟨m, ⟨o, es, ep, ho, r⟩, _⟩ := id I.loc
  obtain ⟨sl, hL⟩ := u.any ho I.free fun z => (hch _ z).2.1 rfl
  exact I.step (ch := ch) hch (fun b o hL hb hc e n => u.keep b o e n (fun z => (List.mem_cons.mp (I.stkSub b z)).elim hL hb) hc) (fun b o _ _ hc e n => u.any e n hc) (fun b o hc e n => u.free b o e n hc) (fun b o hc e => u.there b o e hc) u.tups u.frzs u.tbls (fun m' hm => by
    obtain ⟨o', es', ep', ho', r'⟩ := hm
    rw [ho] at ho'; cases ho'
    exact ⟨_, es', ep', hL, r'⟩) hok hg
/-- an untracked record of ours (an iterator) has turned -/
theorem Inv.turned {t' : Nat} {it : Addr} (I : Inv X pins σ H s) (k : ∀ b o, b ≠ it → s.heap.get? b = some o → h'.get? b = some o) (hn : H it = none) (hL : it ≠ X.env.locals)
    (h1 : it ∈ X.ex ∨ X.s₀.heap.objs.size ≤ it) (h2 : ∀ x c, X.env.cells.lookup x = some c → c ≠ it) (h3 : ∀ p ∈ X.pn ++ pins, p.1 ≠ it) : Inv X pins σ H { s with heap := h', toks := t' } := by
  have nit : ∀ b u, H b = some u → b ≠ it := fun b u e z => by rw [z, hn] at e; cases e
  refine I.step (g' := s.gens) (d' := s.drawn) (ch := [it]) (fun b hb => ?_) (fun b o _ _ hc e _ => k b o (fun z => hc (by simp [z])) e) (fun b o _ _ hc e _ => ⟨o.slots, k b o (fun z => hc (by simp [z])) e⟩) (fun _ _ _ _ n => n)
    (fun b o hc e => ⟨o, k b o (fun z => hc (by simp [z])) e⟩) (fun _ _ e => e) (fun _ _ _ e => e) (fun b ps e => ⟨#[], by rw [e]; simp⟩) (fun m hm => ?_) (fun b u e => ?_) I.bare
  · have e : b = it := by simpa using hb
    subst e
    exact ⟨h1, hL, h2, h3⟩
  · obtain ⟨o, es, ep, ho, r⟩ := hm
    exact ⟨o, es, ep, k _ o (Ne.symm hL) ho, r⟩
  · refine (I.hok b u e).stay (fun c v hc q => k c v ?_ q) (fun _ q => q) fun _ _ q => q
    rcases hc with z | z
    · rw [z]; exact nit b u e
    · exact nit c _ z
theorem Inv.tok (I : Inv X pins σ H s) (t : Nat) : Inv X pins σ H { s with toks := t } := I.un (h' := s.heap) (t' := t) Un.refl I.hok
/-- all objects kept -/
theorem Inv.kept {t' : Nat} (I : Inv X pins σ H s) (k : ∀ b u, s.heap.get? b = some u → h'.get? b = some u) : Inv X pins σ H { s with heap := h', toks := t' } := I.un (Un.kept k) (I.hok.kept k)
/-- a new object laid and tracked -/
theorem Inv.laid {a : Addr} {o : HO} {t' : Nat} (I : Inv X pins σ H s) (k : ∀ b u, s.heap.get? b = some u → h'.get? b = some u) (hp : s.heap.objs.size ≤ a) (new : ObjOk X.prog X.w (upd H a o) h' a o) :
    Inv X pins σ (upd H a o) { s with heap := h', toks := t' } := I.un (Un.laid k hp (I.hok.fresh hp)) (I.hok.laid k hp new)
/-- an object written -/
theorem Inv.write {x e : Addr} {o : HO} {t' : Nat} (I : Inv X pins σ H s) (mu : Mut (H x)) (he : e = x ∨ H e = some (.own x)) (k : ∀ b u, b ≠ e → s.heap.get? b = some u → h'.get? b = some u) (heo : ∃ u, h'.get? e = some u)
    (new : ObjOk X.prog X.w (upd H x o) h' x o) : Inv X pins σ (upd H x o) { s with heap := h', toks := t' } := I.un (Un.write mu he k heo) (I.hok.write mu he k heo new)
theorem Inv.pins_of {pins' : List (Addr × Obj)} (I : Inv X pins σ H s) (h : ∀ p ∈ pins', s.heap.get? p.1 = some p.2 ∧ H p.1 = none ∧ p.1 ≠ X.env.locals ∧ p.1 ∉ X.fs ∧ ∀ v, p.2.data ≠ .cell v) : Inv X pins' σ H s :=
  ⟨I.ok, I.os, I.bare, I.base, I.loc, I.cell, I.free, I.freeC, fun p hp => (List.mem_append.mp hp).elim (fun z => I.pin p (List.mem_append_left _ z)) (h p), I.hok, I.len⟩

theorem nodup_ix {N : List Str} (hN : N.Nodup) {i j : Nat} {x : Str} (a : N[i]? = some x) (b : N[j]? = some x) : i = j := by
  obtain ⟨h1, e1⟩ := List.getElem?_eq_some_iff.mp a
  obtain ⟨h2, e2⟩ := List.getElem?_eq_some_iff.mp b
  exact (List.getElem_inj hN).mp (e1.trans e2.symm)

/-- a name is stored; what changed -/
theorem store_ok2 {M : Model} {A : Around} {E : Value → Shared → Prop} {i : Nat} {x : Str} {v : V} {u : Value} {Q : Unit → Shared → Prop} (I : Inv X pins σ H s) (hN : X.N.Nodup) (hi : X.N[i]? = some x) (hx : Loc X.env.scope x) (r : RelV v u)
    (h : ∀ s', Inv X pins (σ.set i (some v)) H s' → (∃ a, Heap.SameBut a s.heap s'.heap ∧ (a = X.env.locals ∨ X.env.cells.lookup x = some a)) → Q () s') (hf : X.fn x = true ∨ X.env.scope.names.lookup x = some .local := by first | exact .inl rfl | exact .inr rfl | assumption) : wpAny M A (storeName X.env x u) Q E s := by
  obtain ⟨m, hn, hl⟩ := id I.loc
  have hcls : (X.env.scope.kind == .class || (X.env.scope.kind == .module && X.env.locals != X.env.globals)) = false := by rw [I.ok.kind]; rfl
  have hiσ : i < σ.length := by rw [I.len]; exact (List.getElem?_eq_some_iff.mp hi).1
  have cne := I.cne
  have tracked : ∀ {a : Addr} {h' : Heap}, (∃ o, s.heap.get? a = some o ∧ H a = none) → Heap.SameBut a s.heap h' → HOk X.prog X.w H h' := fun {a h'} ha hs b ob e => by
    obtain ⟨_, _, hfree⟩ := ha
    refine (I.hok b ob e).stay (fun c w' hc q => (hs.2 c ?_).trans q) (fun _ q => q) fun _ _ q => q
    rintro rfl
    rcases hc with rfl | hc
    · rw [hfree] at e; cases e
    · rw [hfree] at hc; cases hc
  rcases hx with hk | hk
  · refine wpAny_storeName_local hk hn (fun h' hn' hs => ?_) hcls
    obtain ⟨oL, _, _, hoL, _⟩ := id hn
    refine h _ ⟨I.ok, I.os, I.bare, ⟨fun b o e n hb hx => ?_, fun b o e n hb hx => ?_, I.base.free, fun b o e hx => ?_, I.base.tups, I.base.frzs, I.base.tbls⟩, ⟨_, hn', fun j y v' e1 e2 e3 => ?_⟩, fun y c e => ?_, I.free, I.freeC, fun p hp => ?_, tracked ⟨oL, hoL, I.free⟩ hs, by simpa using I.len⟩ ⟨_, hs, .inl rfl⟩
    · exact (hs.2 b (Nat.ne_of_lt (Nat.lt_of_lt_of_le (Heap.lt_size e) I.ok.above))).trans (I.base.keep b o e n hb hx)
    · obtain ⟨sl, e1⟩ := I.base.slot b o e n hb hx
      exact ⟨sl, (hs.2 b (Nat.ne_of_lt (Nat.lt_of_lt_of_le (Heap.lt_size e) I.ok.above))).trans e1⟩
    · obtain ⟨o', e1⟩ := I.base.there b o e hx
      exact ⟨o', (hs.2 b (Nat.ne_of_lt (Nat.lt_of_lt_of_le (Heap.lt_size e) I.ok.above))).trans e1⟩
    · by_cases hj : j = i
      · subst hj
        rw [hi] at e1; cases e1
        rw [List.getElem?_set_self hiσ] at e2
        cases e2
        exact ⟨u, r, .inl ⟨hk, by simp⟩⟩
      · rw [List.getElem?_set_ne (Ne.symm hj)] at e2
        obtain ⟨u', r', q⟩ := hl j y v' e1 e2 e3
        refine ⟨u', r', ?_⟩
        rcases q with ⟨k, e⟩ | ⟨k, c, e, z⟩
        · refine .inl ⟨k, ?_⟩
          have : y ≠ x := fun e => hj (nodup_ix hN e1 (e ▸ hi))
          simp [this, e]
        · exact .inr ⟨k, c, e, z.sameBut hs (cne y c e)⟩
    · obtain ⟨w', z⟩ := I.cell y c e
      exact ⟨w', z.sameBut hs (cne y c e)⟩
    · obtain ⟨e, n, ne, nf, d⟩ := I.pin p hp
      exact ⟨(hs.2 p.1 ne).trans e, n, ne, nf, d⟩
  · have hfn : X.fn x = true := by
      rcases hf with z | z
      · exact z
      · rw [z] at hk; cases hk
    obtain ⟨c, hc⟩ := I.ok.has x (.inl hk)
    obtain ⟨w', z⟩ := I.cell x c hc
    refine wpAny_storeName_cell I.ok.kind hk hc z (fun h' hc' hs => ?_)
    obtain ⟨oc, hoc, hocd⟩ := id z
    refine h { s with heap := h' } ⟨I.ok, I.os, I.bare, ⟨fun b o e n hb hx => ?_, fun b o e n hb hx => ?_, I.base.free, fun b o e hx => ?_, I.base.tups, I.base.frzs, I.base.tbls⟩, ⟨m, hn.sameBut hs (Ne.symm (cne x c hc)), fun j y v' e1 e2 e3 => ?_⟩, fun y c' e => ?_, I.free, I.freeC, fun p hp => ?_, tracked ⟨oc, hoc, I.freeC x c hc⟩ hs, by simpa using I.len⟩ ⟨c, hs, .inr hc⟩
    · exact (hs.2 b (Nat.ne_of_lt (Nat.lt_of_lt_of_le (Heap.lt_size e) (I.ok.cab x c hfn hc)))).trans (I.base.keep b o e n hb hx)
    · obtain ⟨sl, e1⟩ := I.base.slot b o e n hb hx
      exact ⟨sl, (hs.2 b (Nat.ne_of_lt (Nat.lt_of_lt_of_le (Heap.lt_size e) (I.ok.cab x c hfn hc)))).trans e1⟩
    · obtain ⟨o', e1⟩ := I.base.there b o e hx
      exact ⟨o', (hs.2 b (Nat.ne_of_lt (Nat.lt_of_lt_of_le (Heap.lt_size e) (I.ok.cab x c hfn hc)))).trans e1⟩
    · by_cases hj : j = i
      · subst hj
        rw [hi] at e1; cases e1
        rw [List.getElem?_set_self hiσ] at e2
        cases e2
        exact ⟨u, r, .inr ⟨.inl hk, c, hc, hc'⟩⟩
      · rw [List.getElem?_set_ne (Ne.symm hj)] at e2
        obtain ⟨u', r', q⟩ := hl j y v' e1 e2 e3
        refine ⟨u', r', ?_⟩
        rcases q with q | ⟨k, c', e, z'⟩
        · exact .inl q
        · refine .inr ⟨k, c', e, z'.sameBut hs ?_⟩
          rintro rfl
          exact hj (nodup_ix hN e1 (I.ok.inj _ _ _ e hc ▸ hi))
    · by_cases hcc : c' = c
      · subst hcc; exact ⟨_, hc'⟩
      · obtain ⟨w2, z2⟩ := I.cell y c' e
        exact ⟨w2, z2.sameBut hs hcc⟩
    · obtain ⟨e, n, ne, nf, d⟩ := I.pin p hp
      refine ⟨(hs.2 p.1 ?_).trans e, n, ne, nf, d⟩
      intro q
      rw [q, hoc] at e
      have q' : oc = p.2 := Option.some.inj e
      exact d w' (by rw [← q']; exact hocd)
theorem store_ok {M : Model} {A : Around} {E : Value → Shared → Prop} {i : Nat} {x : Str} {v : V} {u : Value} {Q : Unit → Shared → Prop} (I : Inv X pins σ H s) (hN : X.N.Nodup) (hi : X.N[i]? = some x) (hx : Loc X.env.scope x) (r : RelV v u)
    (h : ∀ s', Inv X pins (σ.set i (some v)) H s' → Q () s') (hf : X.fn x = true ∨ X.env.scope.names.lookup x = some .local := by first | exact .inl rfl | exact .inr rfl | assumption) : wpAny M A (storeName X.env x u) Q E s :=
  store_ok2 I hN hi hx r (fun s' I' _ => h s' I') hf
/-- behind a call or a block, the state as it is -/
theorem Inv.call' {s' : Shared} {ch : List Addr} (I : Inv X pins σ H s) (ho : s'.os = s.os) (u : Un (frs X.stack) ch H H' s.heap s'.heap) (hok : HOk X.prog X.w H' s'.heap) (hg : AllBare s'.gens)
    (hch : ∀ b ∈ ch, (b ∈ X.ex ∨ X.s₀.heap.objs.size ≤ b) ∧ b ≠ X.env.locals ∧ (∀ x c, X.env.cells.lookup x = some c → c ≠ b) ∧ ∀ p ∈ X.pn ++ pins, p.1 ≠ b) : Inv X pins σ H' s' := by
  obtain ⟨h', g', d', t', o'⟩ := s'
  have e : o' = s.os := ho
  subst e
  exact I.call (g' := g') (t' := t') (d' := d') u hok hg hch
end

/-! ### the judgements -/
/-- an exception: its class, its own dict's address (where it has one), the abstract heap behind it -/
abbrev XK := Value → Option Addr → Hp → Prop
abbrev St := List (Option V)
abbrev VK := V → Hp → Prop
/-- an expression's reading; a test's; an argument list's -/
abbrev TE := St → Hp → VK → Prop
abbrev TT := St → Hp → (Bool → Hp → Prop) → Prop
abbrev TA := St → Hp → (List V → Hp → Prop) → Prop
/-- what is wanted behind a statement -/
structure Ends where
  nx : St → Hp → Prop
  rt : VK
  bk : St → Hp → Prop := fun _ _ => False
  ct : St → Hp → Prop := fun _ _ => False
abbrev TS := Ends → St → Hp → Prop

def EP (X : Cx) (pins : List (Addr × Obj)) (σ : St) (Q : VK) (u : Value) (s' : Shared) : Prop := ∃ v H', Inv X pins σ H' s' ∧ RelV v u ∧ Q v H'
def TP (X : Cx) (pins : List (Addr × Obj)) (σ : St) (Q : Bool → Hp → Prop) (b : Bool) (s' : Shared) : Prop := ∃ H', Inv X pins σ H' s' ∧ Q b H'
def AP (X : Cx) (pins : List (Addr × Obj)) (σ : St) (Q : List V → Hp → Prop) (us : List Value) (s' : Shared) : Prop := ∃ vs H', Inv X pins σ H' s' ∧ Vals vs us ∧ Q vs H'
def SP (X : Cx) (pins : List (Addr × Obj)) (D : Ends) (f : Flow) (s' : Shared) : Prop :=
  match f with
  | .next => ∃ σ' H', Inv X pins σ' H' s' ∧ D.nx σ' H'
  | .brk => ∃ σ' H', Inv X pins σ' H' s' ∧ D.bk σ' H'
  | .cont => ∃ σ' H', Inv X pins σ' H' s' ∧ D.ct σ' H'
  | .ret u => ∃ v σ' H', Inv X pins σ' H' s' ∧ RelV v u ∧ D.rt v H'

def PE (X : Cx) (e : Expr) (t : TE) : Prop :=
  ∀ (pins : List (Addr × Obj)) (s : Shared) (σ : St) (H : Hp) (Q : VK), Inv X pins σ H s → t σ H Q → wpAny (model X.prog X.w) X.A (eval e X.env) (EP X pins σ Q) X.xe s
def PT (X : Cx) (e : Expr) (t : TT) : Prop :=
  ∀ (pins : List (Addr × Obj)) (s : Shared) (σ : St) (H : Hp) (Q : Bool → Hp → Prop), Inv X pins σ H s → t σ H Q → wpAny (model X.prog X.w) X.A (isTrue e X.env (eval e X.env)) (TP X pins σ Q) X.xe s
/-- a test whatever its 'whole' is (and, or) -/
def PW (X : Cx) (e : Expr) (t : TT) : Prop :=
  ∀ (whole : Sem Value) (pins : List (Addr × Obj)) (s : Shared) (σ : St) (H : Hp) (Q : Bool → Hp → Prop), Inv X pins σ H s → t σ H Q → wpAny (model X.prog X.w) X.A (isTrue e X.env whole) (TP X pins σ Q) X.xe s
theorem PW.pt {X : Cx} {e : Expr} {t : TT} (h : PW X e t) : PT X e t := h _
/-- an argument list (no star), from the left -/
def PA (X : Cx) (es : List Expr) (t : TA) : Prop :=
  ∀ (pos : Pos) (pins : List (Addr × Obj)) (s : Shared) (σ : St) (H : Hp) (Q : List V → Hp → Prop), Inv X pins σ H s → t σ H Q → wpAny (model X.prog X.w) X.A (spliced (backTo pos (starEach es X.env))) (AP X pins σ Q) X.xe s
def PS (X : Cx) (st : Stmt) (t : TS) : Prop :=
  ∀ (pins : List (Addr × Obj)) (s : Shared) (σ : St) (H : Hp) (D : Ends), Inv X pins σ H s → t D σ H → wpAny (model X.prog X.w) X.A (exec st X.env) (SP X pins D) X.xe s
def PSs (X : Cx) (st : List Stmt) (t : TS) : Prop :=
  ∀ (pins : List (Addr × Obj)) (s : Shared) (σ : St) (H : Hp) (D : Ends), Inv X pins σ H s → t D σ H → wpAny (model X.prog X.w) X.A (execs st X.env) (SP X pins D) X.xe s
/-- weaken the end -/
theorem thn {α : Type} {t : Sem α} {Q Q' : α → Shared → Prop} {M : Model} {A : Around} {E : Value → Shared → Prop} {s : Shared} (h : wpAny M A t Q E s) (hQ : ∀ a s, Q a s → Q' a s) : wpAny M A t Q' E s := wpAny_mono h hQ fun _ _ x => x
end L2

namespace L2
open PySem PySem.Spec PyProof.Rows
section
variable {X : Cx}


/-! ### names and constants -/
def tVar (i : Nat) : TE := fun σ H Q => ∃ v, σ[i]? = some (some v) ∧ Q v H
def tC (v : V) : TE := fun _ H Q => Q v H
theorem pe_var {i : Nat} {x : Str} {pos : Pos} (hN : X.N[i]? = some x) (hv : Vis X.env.scope x) (hd : (x == ("__debug__" : Str)) = false := by decide) (hcd : (x == ("__classdict__" : Str)) = false := by decide) : PE X (.Name x pos) (tVar i) := by
  intro pins s σ H Q I h
  obtain ⟨v, e, h⟩ := h
  obtain ⟨m, hn, hl⟩ := I.loc
  obtain ⟨u, r, l⟩ := hl i x v hN e hv
  have fin : EP X pins σ Q u s := ⟨v, H, I, r, h⟩
  rcases l with ⟨hk, hm⟩ | ⟨hk, c, hc, hcell⟩
  · exact wpAny_Name (wpAny_loadName_local I.ok.kind hk hn hm fin) hd
  · rcases hk with hk | hk
    · exact wpAny_Name (wpAny_loadName_cell I.ok.kind hk hc hcell fin) hd
    · exact wpAny_Name (wpAny_loadName_free I.ok.kind hk hc hcell fin hcd) hd
theorem pe_int {i j pos} : PE X (.Constant (.int i) j pos) (tC (.int i)) := fun _ _ _ H _ I h => wpAny_Constant_int ⟨.int i, H, I.tok _, ⟨_, rfl⟩, h⟩
theorem pe_bl {b j pos} : PE X (.Constant (.bool b) j pos) (tC (.bl b)) := fun _ _ _ H _ I h => Constant_bool ⟨.bl b, H, I, rfl, h⟩
theorem pe_non {j pos} : PE X (.Constant .none j pos) (tC .non) := fun _ _ _ H _ I h => Constant_none ⟨.non, H, I, rfl, h⟩

/-- a global name of the def -/
def Gl (X : Cx) (x : Str) : Prop := X.env.kindOf x = some .globalImplicit
theorem ld_glob {E : Value → Shared → Prop} {pins : List (Addr × Obj)} {s : Shared} {σ : St} {H : Hp} {x : Str} {u : Value} {pos : Pos} {Q : Value → Shared → Prop} (I : Inv X pins σ H s) (hg : Gl X x) (hm : X.mg x = some u) (h : Q u s)
    (hd : (x == ("__debug__" : Str)) = false := by decide) : wpAny (model X.prog X.w) X.A (eval (.Name x pos) X.env) Q E s :=
  Calls.Name_function_global I.ok.kind hg (Calls.loadGlobal_global (by rw [I.ok.glob]; exact I.mod.glob.keeps I.bk) hm h) hd
theorem ld_blt {E : Value → Shared → Prop} {pins : List (Addr × Obj)} {s : Shared} {σ : St} {H : Hp} {x : Str} {u : Value} {pos : Pos} {Q : Value → Shared → Prop} (I : Inv X pins σ H s) (hg : Gl X x) (hm : X.mg x = none) (hv : bootBuiltins x = some u) (h : Q u s)
    (hn : x ≠ "__name__" := by decide) (hd : (x == ("__debug__" : Str)) = false := by decide) : wpAny (model X.prog X.w) X.A (eval (.Name x pos) X.env) Q E s := by
  obtain ⟨mb, h1, h2⟩ := I.mod.blt
  exact Calls.Name_function_global I.ok.kind hg (Calls.loadGlobal_builtin (by rw [I.ok.glob]; exact I.mod.glob.keeps I.bk) hm (by rw [I.ok.blt]; exact h1.keeps I.bk) ((h2 x hn).trans hv) h) hd
/-- a module's constant, a class, a function, as a value -/
theorem pe_glob {x : Str} {v : V} {u : Value} {pos : Pos} (hg : Gl X x) (hm : X.mg x = some u) (r : RelV v u) (hd : (x == ("__debug__" : Str)) = false := by decide) : PE X (.Name x pos) (tC v) :=
  fun _ _ _ H _ I h => ld_glob I hg hm ⟨v, H, I, r, h⟩ hd
theorem pe_bltn {x : Str} {v : V} {u : Value} {pos : Pos} (hg : Gl X x) (hm : X.mg x = none) (hv : bootBuiltins x = some u) (r : RelV v u) (hn : x ≠ "__name__" := by decide) (hd : (x == ("__debug__" : Str)) = false := by decide) : PE X (.Name x pos) (tC v) :=
  fun _ _ _ H _ I h => ld_blt I hg hm hv ⟨v, H, I, r, h⟩ hn hd

/-! ### arithmetic -/
/-- two ints -/
def t2I (ta tb : TE) (k : Int → Int → Hp → Prop) : St → Hp → Prop := fun σ H => ta σ H fun x H1 => tb σ H1 fun y H2 => ∃ i j, x = .int i ∧ y = .int j ∧ k i j H2
def tAdd (ta tb : TE) : TE := fun σ H Q => t2I ta tb (fun i j H2 => Q (.int (i + j)) H2) σ H
def tSub (ta tb : TE) : TE := fun σ H Q => t2I ta tb (fun i j H2 => Q (.int (i - j)) H2) σ H
/-- the left factor below 2^64 -/
def tMul (ta tb : TE) : TE := fun σ H Q => t2I ta tb (fun i j H2 => (-(2 ^ 64) < i ∧ i < 2 ^ 64) ∧ Q (.int (i * j)) H2) σ H
variable {a b : Expr} {ta tb : TE} {pos : Pos}

/-! ### comparisons -/
def PC (X : Cx) (op : CmpOp) (a b : Expr) (t : TE) : Prop :=
  ∀ (pins : List (Addr × Obj)) (s : Shared) (σ : St) (H : Hp) (Q : VK), Inv X pins σ H s → t σ H Q →
    wpAny (model X.prog X.w) X.A (eval a X.env) (fun v s₁ => wpAny (model X.prog X.w) X.A (eval b X.env) (fun u s₂ => wpAny (model X.prog X.w) X.A (compareOp op v u) (EP X pins σ Q) X.xe s₂) X.xe s₁) X.xe s
def tCmp (p : Int → Int → Bool) (ta tb : TE) : TE := fun σ H Q => t2I ta tb (fun i j H2 => Q (.bl (p i j)) H2) σ H
abbrev tLt : TE → TE → TE := tCmp fun i j => decide (i < j)
abbrev tLe : TE → TE → TE := tCmp fun i j => decide (i ≤ j)
abbrev tGt : TE → TE → TE := tCmp fun i j => decide (j < i)
abbrev tGe : TE → TE → TE := tCmp fun i j => decide (j ≤ i)
abbrev tEqI : TE → TE → TE := tCmp fun i j => decide (i = j)
abbrev tNeI : TE → TE → TE := tCmp fun i j => !decide (i = j)
/-- is None -/
def tIsN (ta : TE) : TE := fun σ H Q => ta σ H fun x H1 => Q (.bl (decide (x = .non))) H1
def tNotN (ta : TE) : TE := fun σ H Q => ta σ H fun x H1 => Q (.bl (!decide (x = .non))) H1
/-- a comparison as a value, as a test -/
def tB (t : TE) : TT := fun σ H Q => t σ H fun x H1 => ∃ c, x = .bl c ∧ Q c H1
/-- an expression whose value is a bool, as a test -/
theorem pt_val {e : Expr} {t : TE} (h : PE X e t) (he : ∀ whole, isTrue e X.env whole = (do let v ← whole; standAt e.pos; holding [v] (truthy v)) := by intro _; rfl) : PT X e (tB t) := by
  intro pins s σ H Q I hw
  refine isTrue_plain (thn (h pins s σ H _ I hw) fun v s1 ⟨x, H1, I1, r1, q1⟩ => ?_) (he _)
  obtain ⟨d, rfl, q⟩ := q1
  cases r1
  exact wpAny_truthy_bool ⟨H1, I1, q⟩

/-! ### and, or, not -/
variable {tA tB' : TT} {rest : List Expr}
def tAnd (t u : TT) : TT := fun σ H Q => t σ H fun c H1 => if c = true then u σ H1 Q else Q false H1
def tOr (t u : TT) : TT := fun σ H Q => t σ H fun c H1 => if c = true then Q true H1 else u σ H1 Q
def tNot (t : TT) : TT := fun σ H Q => t σ H fun c H1 => Q (!c) H1
theorem pw_and1 (ha : PT X a tA) : PW X (.BoolOp .And [a] pos) tA := by
  intro wh pins s σ H Q I h
  refine isTrue_and (thn (ha pins s σ H Q I h) fun c s1 e => ?_)
  cases c with
  | true => exact isTrue_and_nil e
  | false => exact e
theorem pw_or1 (ha : PT X a tA) : PW X (.BoolOp .Or [a] pos) tA := by
  intro wh pins s σ H Q I h
  refine isTrue_or (thn (ha pins s σ H Q I h) fun c s1 e => ?_)
  cases c with
  | false => exact isTrue_or_nil e
  | true => exact e
theorem pw_and (ha : PT X a tA) (hb : PW X (.BoolOp .And (b :: rest) pos) tB') : PW X (.BoolOp .And (a :: b :: rest) pos) (tAnd tA tB') := by
  intro wh pins s σ H Q I h
  refine isTrue_and (thn (ha pins s σ H _ I h) fun c s1 ⟨H1, I1, q1⟩ => ?_)
  cases c with
  | true => exact hb wh pins s1 σ H1 Q I1 q1
  | false => exact ⟨H1, I1, q1⟩
theorem pw_or (ha : PT X a tA) (hb : PW X (.BoolOp .Or (b :: rest) pos) tB') : PW X (.BoolOp .Or (a :: b :: rest) pos) (tOr tA tB') := by
  intro wh pins s σ H Q I h
  refine isTrue_or (thn (ha pins s σ H _ I h) fun c s1 ⟨H1, I1, q1⟩ => ?_)
  cases c with
  | true => exact ⟨H1, I1, q1⟩
  | false => exact hb wh pins s1 σ H1 Q I1 q1
theorem pt_not (ha : PT X a tA) : PT X (.UnaryOp .Not a pos) (tNot tA) := by
  intro pins s σ H Q I h
  exact isTrue_not (ha pins s σ H (fun c H1 => Q (!c) H1) I h)
/-- .. as values (bools) -/
def tAndV (ta tb : TE) : TE := fun σ H Q => ta σ H fun x H1 => ∃ c, x = .bl c ∧ if c = true then tb σ H1 Q else Q (.bl false) H1
def tOrV (ta tb : TE) : TE := fun σ H Q => ta σ H fun x H1 => ∃ c, x = .bl c ∧ if c = true then Q (.bl true) H1 else tb σ H1 Q
def tNotV (ta : TE) : TE := fun σ H Q => ta σ H fun x H1 => ∃ c, x = .bl c ∧ Q (.bl (!c)) H1
theorem pe_one {op} {t : TE} (h : PE X a t) : PE X (.BoolOp op [a] pos) t := fun pins s σ H Q I hw => BoolOp_one (h pins s σ H Q I hw)
theorem pe_and (ha : PE X a ta) (hb : PE X (.BoolOp .And (b :: rest) pos) tb) : PE X (.BoolOp .And (a :: b :: rest) pos) (tAndV ta tb) := by
  intro pins s σ H Q I h
  refine BoolOp_and (thn (ha pins s σ H _ I h) fun v s1 ⟨x, H1, I1, r1, q1⟩ => ?_)
  obtain ⟨c, rfl, q1⟩ := q1
  cases r1
  refine wpAny_truthy_bool ?_
  cases c with
  | true => exact hb pins s1 σ H1 Q I1 q1
  | false => exact ⟨.bl false, H1, I1, rfl, q1⟩
theorem pe_not (ha : PE X a ta) : PE X (.UnaryOp .Not a pos) (tNotV ta) := by
  intro pins s σ H Q I h
  refine UnaryOp_ (thn (ha pins s σ H _ I h) fun v s1 ⟨x, H1, I1, r1, q1⟩ => ?_)
  obtain ⟨c, rfl, q1⟩ := q1
  cases r1
  exact not_of (wpAny_truthy_bool ⟨.bl (!c), H1, I1, rfl, q1⟩)
/-- a if t else b -/
def tIf (t : TT) (ta tb : TE) : TE := fun σ H Q => t σ H fun c H1 => if c = true then ta σ H1 Q else tb σ H1 Q
end
end L2

namespace L2
open PySem PySem.Spec PyProof.Rows

/-! ### a list, a tuple that is read: tracked, frozen, or an object of the module -/
def SqL (K : PySem.W.Frag) (H : Hp) (a : Addr) (xs : List V) : Prop :=
  Rd H a (.lst xs) ∨
    ∃ (o : Obj) (its : Array Value) (n : Nat), K.lookup a = some o ∧ o.cls = .type "list" ∧ o.dict = none ∧ o.data = .seq its n ∧ its.size ≤ sizeLine ∧ Vals xs its.toList
def SqT (K : PySem.W.Frag) (H : Hp) (a : Addr) (xs : List V) : Prop :=
  Rd H a (.tup xs) ∨
    ∃ (o : Obj) (its : Array Value) (n : Nat), K.lookup a = some o ∧ o.cls = .type "tuple" ∧ o.data = .seq its n ∧ its.size ≤ sizeLine ∧ Vals xs its.toList
def absV : Value → Option V
  | .none => some .non
  | .bool b => some (.bl b)
  | .int i _ => some (.int i)
  | .str x _ => some (.str x)
  | .bytes b _ => some (.byt b)
  | .float b _ => some (.flt b)
  | .ref a => some (.ref a)
  | .type n => some (.ty n)
  | _ => none
theorem RelV.abs {x : V} {u : Value} (r : RelV x u) : absV u = some x := by
  cases x with
  | non => cases r; rfl
  | bl _ => cases r; rfl
  | int _ => obtain ⟨t, rfl⟩ := r; rfl
  | str _ => obtain ⟨t, rfl⟩ := r; rfl
  | byt _ => obtain ⟨t, rfl⟩ := r; rfl
  | flt _ => obtain ⟨t, rfl⟩ := r; rfl
  | ref _ => cases r; rfl
  | ty _ => cases r; rfl
theorem RelV.inj {x y : V} {u : Value} (r : RelV x u) (q : RelV y u) : x = y := Option.some.inj (r.abs.symm.trans q.abs)
theorem Vals.inj : ∀ {xs ys : List V} {us : List Value}, Vals xs us → Vals ys us → xs = ys
  | _, _, _, .nil, .nil => rfl
  | _, _, _, .cons r t, .cons r' t' => by rw [r.inj r', Vals.inj t t']
section
variable {X : Cx} {pins : List (Addr × Obj)} {σ : St} {H : Hp} {s : Shared} {a : Addr} {xs ys : List V}
theorem SqL.of {K : PySem.W.Frag} (h : H a = some (.lst xs)) : SqL K H a xs := .inl (.inl h)
theorem SqT.of {K : PySem.W.Frag} (h : H a = some (.tup xs)) : SqT K H a xs := .inl (.inl h)
theorem Inv.list (I : Inv X pins σ H s) (h : SqL X.K H a xs) : ∃ its : List Value, Vals xs its ∧ PlainL s.heap a its.toArray ∧ xs.length ≤ sizeLine := by
  rcases h with h | ⟨o, its, n, hk, hc, hd, hs, hz, r⟩
  · obtain ⟨z, its, n, r, e⟩ := h.ok I.hok
    exact ⟨its, r, ⟨_, n, e, rfl, rfl, rfl⟩, z⟩
  · refine ⟨its.toList, r, ⟨o, n, I.kIn a o hk, hc, hd, by simpa using hs⟩, ?_⟩
    have e := r.length
    simp only [Array.length_toList] at e
    omega
theorem Inv.tuple (I : Inv X pins σ H s) (h : SqT X.K H a xs) : ∃ its : List Value, Vals xs its ∧ IsTup s.heap a its.toArray ∧ xs.length ≤ sizeLine := by
  rcases h with h | ⟨o, its, n, hk, hc, hs, hz, r⟩
  · obtain ⟨z, its, r, p⟩ := h.ok I.hok
    exact ⟨its, r, p, z⟩
  · refine ⟨its.toList, r, ⟨o, I.kIn a o hk, hc, n, by simpa using hs⟩, ?_⟩
    have e := r.length
    simp only [Array.length_toList] at e
    omega
theorem Inv.list_inj (I : Inv X pins σ H s) (h : SqL X.K H a xs) (h' : SqL X.K H a ys) : xs = ys := by
  obtain ⟨its, r, ⟨o, n, e, _, _, d⟩, _⟩ := I.list h
  obtain ⟨its', r', ⟨o', n', e', _, _, d'⟩, _⟩ := I.list h'
  rw [e] at e'; cases e'
  rw [d] at d'
  injection d' with d1 _
  have : its = its' := by simpa using congrArg Array.toList d1
  subst this
  exact r.inj r'
end

/-! ### another wish about exceptions -/
abbrev Cx.wish (X : Cx) (E : Value → Shared → Prop) : Cx := { X with xe := E }
/-- no exception leaves -/
abbrev Cx.nox (X : Cx) : Cx := X.wish fun _ _ => False
theorem Cx.Ok.wish {X : Cx} (ok : X.Ok) (E : Value → Shared → Prop) : (X.wish E).Ok :=
  ⟨ok.mod, ok.kind, ok.glob, ok.blt, ok.above, ok.inj, ok.has, ok.cab, ok.hd, ok.frames, ok.stk, ok.exf, ok.bs, ok.bsz, ok.noex, ok.exfs, ok.funs, ok.frf⟩
theorem Cx.Ok.unwish {X : Cx} {E : Value → Shared → Prop} (ok : (X.wish E).Ok) : X.Ok :=
  ⟨ok.mod, ok.kind, ok.glob, ok.blt, ok.above, ok.inj, ok.has, ok.cab, ok.hd, ok.frames, ok.stk, ok.exf, ok.bs, ok.bsz, ok.noex, ok.exfs, ok.funs, ok.frf⟩
section
variable {X : Cx} {pins : List (Addr × Obj)} {σ : St} {H : Hp} {s : Shared} {E : Value → Shared → Prop}
theorem Inv.wish (I : Inv X pins σ H s) (E : Value → Shared → Prop) : Inv (X.wish E) pins σ H s := ⟨I.ok.wish E, I.os, I.bare, I.base, I.loc, I.cell, I.free, I.freeC, I.pin, I.hok, I.len⟩
theorem Inv.unwish (I : Inv (X.wish E) pins σ H s) : Inv X pins σ H s := ⟨I.ok.unwish, I.os, I.bare, I.base, I.loc, I.cell, I.free, I.freeC, I.pin, I.hok, I.len⟩
theorem SP.unwish {D : Ends} {f : Flow} {s' : Shared} (h : SP (X.wish E) pins D f s') : SP X pins D f s' := by
  cases f with
  | next => obtain ⟨σ', H', I, q⟩ := h; exact ⟨σ', H', I.unwish, q⟩
  | brk => obtain ⟨σ', H', I, q⟩ := h; exact ⟨σ', H', I.unwish, q⟩
  | cont => obtain ⟨σ', H', I, q⟩ := h; exact ⟨σ', H', I.unwish, q⟩
  | ret u => obtain ⟨v, σ', H', I, r, q⟩ := h; exact ⟨v, σ', H', I.unwish, r, q⟩
theorem PSs.nox {st : List Stmt} {t : TS} (h : PSs X.nox st t) : PSs X st t := fun pins s σ H D I hw =>
  wpAny_mono (h pins s σ H D (I.wish _) hw) (fun _ _ q => q.unwish) fun _ _ z => False.elim z
end

/-! ### blocks and small statements -/
section
variable {X : Cx} {st : Stmt} {rest : List Stmt} {t u : TS} {e : Expr} {te : TE} {pos : Pos}
def tNext : TS := fun D σ H => D.nx σ H
def tSeq (t u : TS) : TS := fun D σ H => t { D with nx := u D } σ H
theorem pss_nil : PSs X [] tNext := fun _ _ σ H _ I h => wpAny_execs_nil ⟨σ, H, I, h⟩
theorem pss_cons (h1 : PS X st t) (h2 : PSs X rest u) : PSs X (st :: rest) (tSeq t u) := by
  intro pins s σ H D I h
  refine wpAny_execs_cons (thn (h1 pins s σ H { D with nx := u D } I h) fun f s1 q => ?_)
  cases f with
  | next =>
    obtain ⟨σ', H', I', q⟩ := q
    exact h2 pins s1 σ' H' D I' q
  | ret v => exact q
  | brk => exact q
  | cont => exact q
theorem pss_one (h1 : PS X st t) : PSs X [st] t := by
  intro pins s σ H D I h
  refine wpAny_execs_cons (thn (h1 pins s σ H D I h) fun f s1 q => ?_)
  cases f with
  | next => exact wpAny_execs_nil q
  | ret v => exact q
  | brk => exact q
  | cont => exact q
def tBreak : TS := fun D σ H => D.bk σ H
def tCont : TS := fun D σ H => D.ct σ H
/-- in a def's body nothing is shown -/
theorem Inv.quiet {pins : List (Addr × Obj)} {σ : St} {H : Hp} {s : Shared} (I : Inv X pins σ H s) : interactive X.env = false := by simp [interactive, I.ok.kind]
/-- an expression whose value is dropped -/
def tDrop (te : TE) : TS := fun D σ H => te σ H fun _ H1 => D.nx σ H1
theorem ps_expr (he : PE X e te) (hs : swapsWith e none pos.line X.env = pure false := by rfl) : PS X (.Expr e pos) (tDrop te) := by
  intro pins s σ H D I h
  exact wpAny_Expr_any (thn (he pins s σ H _ I h) fun v s1 ⟨x, H1, I1, r1, q1⟩ => ⟨σ, H1, I1, q1⟩) I.quiet hs
def tRet (te : TE) : TS := fun D σ H => te σ H D.rt
theorem ps_ret (he : PE X e te) : PS X (.Return (some e) pos) (tRet te) := by
  intro pins s σ H D I h
  exact wpAny_Return_some (thn (he pins s σ H _ I h) fun v s1 ⟨x, H1, I1, r1, q1⟩ => ⟨x, σ, H1, I1, r1, q1⟩)
def tRetN : TS := fun D _ H => D.rt .non H
def tIfS (c : TT) (t u : TS) : TS := fun D σ H => c σ H fun b H1 => if b = true then t D σ H1 else u D σ H1
theorem ps_if {c : Expr} {a b : List Stmt} {tc : TT} (hc : PT X c tc) (ha : PSs X a t) (hb : PSs X b u) : PS X (.If c a b pos) (tIfS tc t u) := by
  intro pins s σ H D I h
  refine wpAny_If (thn (hc pins s σ H _ I h) fun d s1 ⟨H1, I1, q1⟩ => ?_)
  cases d with
  | true => exact ha pins s1 σ H1 D I1 q1
  | false => exact hb pins s1 σ H1 D I1 q1
/-- code that the proof never comes to -/
def tNever : TS := fun _ _ _ => False
theorem pss_never {sts : List Stmt} : PSs X sts tNever := fun _ _ _ _ _ _ h => h.elim
end

/-! ### targets -/
abbrev TG := V → St → Hp → (St → Hp → Prop) → Prop
abbrev TGs := List V → St → Hp → (St → Hp → Prop) → Prop
def PG (X : Cx) (target : Expr) (t : TG) : Prop :=
  ∀ (pins : List (Addr × Obj)) (s : Shared) (σ : St) (H : Hp) (v : V) (u : Value) (Q : St → Hp → Prop), Inv X pins σ H s → RelV v u → t v σ H Q →
    wpAny (model X.prog X.w) X.A (assign target X.env u) (fun _ s' => ∃ σ' H', Inv X pins σ' H' s' ∧ Q σ' H') X.xe s
/-- several targets, one after another -/
def PGs (X : Cx) (ts : List Expr) (t : TGs) : Prop :=
  ∀ (pins : List (Addr × Obj)) (s : Shared) (σ : St) (H : Hp) (vs : List V) (us : List Value) (Q : St → Hp → Prop), Inv X pins σ H s → Vals vs us → t vs σ H Q →
    wpAny (model X.prog X.w) X.A (assignInOrder ((assignEach ts X.env).map (·.2)) us) (fun _ s' => ∃ σ' H', Inv X pins σ' H' s' ∧ Q σ' H') X.xe s
/-- o[i] = v, by values -/
abbrev TSet := V → V → V → Hp → (Hp → Prop) → Prop
def PSet (X : Cx) (t : TSet) : Prop :=
  ∀ (pins : List (Addr × Obj)) (s : Shared) (σ : St) (H : Hp) (o i v : V) (ov iv u : Value) (Q : Hp → Prop), Inv X pins σ H s → RelV o ov → RelV i iv → RelV v u → t o i v H Q →
    wpAny (model X.prog X.w) X.A (setItem ov iv u) (fun _ s' => ∃ H', Inv X pins σ H' s' ∧ Q H') X.xe s
/-- a op= b, by values -/
abbrev TIp := V → V → Hp → VK → Prop
def PIp (X : Cx) (op : Operator) (t : TIp) : Prop :=
  ∀ (pins : List (Addr × Obj)) (s : Shared) (σ : St) (H : Hp) (x y : V) (v u : Value) (Q : VK), Inv X pins σ H s → RelV x v → RelV y u → t x y H Q →
    wpAny (model X.prog X.w) X.A (inplaceOp op v u) (EP X pins σ Q) X.xe s
section
variable {X : Cx} {pos : Pos}
def gName (i : Nat) : TG := fun v σ H Q => Q (σ.set i (some v)) H
theorem pg_name {i : Nat} {x : Str} (hN : X.N.Nodup) (hi : X.N[i]? = some x) (hx : Loc X.env.scope x) (hf : X.fn x = true ∨ X.env.scope.names.lookup x = some .local := by first | exact .inl rfl | exact .inr rfl | assumption) : PG X (.Name x pos) (gName i) := by
  intro pins s σ H v u Q I r h
  exact wpAny_assign_Name (store_ok I hN hi hx r (fun s' I' => ⟨_, H, I', h⟩) hf)
def gNil : TGs := fun vs σ H Q => vs = [] ∧ Q σ H
def gCons (t : TG) (u : TGs) : TGs := fun vs σ H Q => ∃ v r, vs = v :: r ∧ t v σ H fun σ' H' => u r σ' H' Q
theorem pgs_nil : PGs X [] gNil := by
  intro pins s σ H vs us Q I r h
  obtain ⟨e, h⟩ := h
  subst e
  cases r
  exact assignInOrder_nil ⟨σ, H, I, h⟩
theorem pgs_cons {e : Expr} {es : List Expr} {t : TG} {u : TGs} (h1 : PG X e t) (h2 : PGs X es u)
    (hs : (assignEach (e :: es) X.env).map (·.2) = assign e X.env :: (assignEach es X.env).map (·.2) := by rfl) : PGs X (e :: es) (gCons t u) := by
  intro pins s σ H vs us Q I r h
  obtain ⟨v, vr, e1, h⟩ := h
  subst e1
  cases r with
  | cons r rr =>
    rw [hs]
    refine assignInOrder_cons (thn (h1 pins s σ H _ _ _ I r h) fun _ s1 ⟨σ1, H1, I1, q1⟩ => ?_)
    exact h2 pins s1 σ1 H1 _ _ Q I1 rr q1
/-- (a, b, ..) = a tuple of that length -/
def gTup (K : PySem.W.Frag) (n : Nat) (t : TGs) : TG := fun v σ H Q => ∃ a xs, v = .ref a ∧ SqT K H a xs ∧ xs.length = n ∧ t xs σ H Q
theorem pg_tup {es : List Expr} {k : Nat} {t : TGs} {n : Nat} (hc : X.calm = true) (h : PGs X es t)
    (hn : (assignEach es X.env).length = n := by rfl) (hst : (assignEach es X.env).findIdx? (·.1) = none := by rfl) : PG X (.Tuple es k pos) (gTup X.K n t) := by
  intro pins s σ H v u Q I r hw
  obtain ⟨a, xs, e1, hq, hl, hw⟩ := hw
  subst e1
  cases r
  obtain ⟨its, rv, ht, hz⟩ := I.tuple hq
  refine assign_Tuple_tuple (I.ok.hd hc) ht (by simp [hn, ← hl, rv.length]) hst fun h' hx => ?_
  have I1 : Inv X pins σ H { s with heap := h' } := I.kept (t' := s.toks) fun b o e => hx b o (Nat.ne_of_lt (Heap.lt_size e)) e
  exact h pins _ σ H xs _ Q I1 (by simpa using rv) hw
/-- o[i] = .. -/
def gSub (to ti : TE) (t : TSet) : TG := fun v σ H Q => to σ H fun o H1 => ti σ H1 fun i H2 => t o i v H2 fun H3 => Q σ H3
/-- target = value -/
def tAsg (te : TE) (g : TG) : TS := fun D σ H => te σ H fun x H1 => g x σ H1 D.nx
/-- name = value -/
theorem ps_set {i : Nat} {x : Str} {e : Expr} {te : TE} {pos' : Pos} (hN : X.N.Nodup) (hi : X.N[i]? = some x) (hx : Loc X.env.scope x) (he : PE X e te) (hs : swapsWith e (some (.Name x pos')) pos.line X.env = pure false := by rfl) (hf : X.fn x = true ∨ X.env.scope.names.lookup x = some .local := by first | exact .inl rfl | exact .inr rfl | assumption) :
    PS X (.Assign [.Name x pos'] e pos) (tAsg te (gName i)) := by
  intro pins s σ H D I h
  refine wpAny_Assign_Name (thn (he pins s σ H _ I h) fun v s1 ⟨y, H1, I1, r1, q1⟩ => ?_) hs
  exact store_ok I1 hN hi hx r1 (fun s2 I2 => ⟨_, H1, I2, q1⟩) hf
/-- a, b = x, y with plain local names: stored from the right; the pair itself is not tracked (the opening rows as in PyProof/Rows/TupAssign.lean:23) -/
def tPar (i j : Nat) (ta : TA) : TS := fun D σ H => ta σ H fun vs H1 => ∃ v w, vs = [v, w] ∧ D.nx ((σ.set i (some v)).set j (some w)) H1
/-- name op= e -/
def tAug (i : Nat) (te : TE) (ti : TIp) : TS := fun D σ H => ∃ x, σ[i]? = some (some x) ∧ te σ H fun y H1 => ti x y H1 fun z H2 => D.nx (σ.set i (some z)) H2
theorem ps_aug {i : Nat} {x : Str} {e : Expr} {te : TE} {op : Operator} {ti : TIp} {pos' : Pos} (hN : X.N.Nodup) (hi : X.N[i]? = some x) (hx : Loc X.env.scope x) (he : PE X e te) (ho : PIp X op ti) (hf : X.fn x = true ∨ X.env.scope.names.lookup x = some .local := by first | exact .inl rfl | exact .inr rfl | assumption) :
    PS X (.AugAssign (.Name x pos') op e pos) (tAug i te ti) := by
  intro pins s σ H D I h
  obtain ⟨v, e1, h⟩ := h
  obtain ⟨m, hn, hl⟩ := I.loc
  have vis : Vis X.env.scope x := by rcases hx with k | k; exact .inl k; exact .inr (.inl k)
  obtain ⟨u, r, l⟩ := hl i x v hi e1 vis
  refine wpAny_AugAssign_Name ?_
  have go : wpAny (model X.prog X.w) X.A (eval e X.env) (fun w s₂ => wpAny (model X.prog X.w) X.A (inplaceOp op u w) (fun r s₃ => wpAny (model X.prog X.w) X.A (storeName X.env x r) (fun _ => SP X pins D .next) X.xe s₃) X.xe s₂) X.xe s := by
    refine thn (he pins s σ H _ I h) fun w s1 ⟨y, H1, I1, r1, q1⟩ => ?_
    refine thn (ho pins s1 σ H1 v y u w _ I1 r r1 q1) fun z s2 ⟨zv, H2, I2, r2, q2⟩ => ?_
    exact store_ok I2 hN hi hx r2 (fun s3 I3 => ⟨_, H2, I3, q2⟩) hf
  rcases l with ⟨hk, hm⟩ | ⟨hk, c, hc, hcell⟩
  · exact wpAny_loadName_local I.ok.kind hk hn hm go
  · rcases hk with hk | hk
    · exact wpAny_loadName_cell I.ok.kind hk hc hcell go
    · rcases hx with k | k
      · have : X.env.scope.names.lookup x = some .free := hk
        rw [k] at this; cases this
      · have : X.env.scope.names.lookup x = some .free := hk
        rw [k] at this; cases this
/-- o[i] op= e -/
def tAugS (to ti te : TE) (tget : V → V → Hp → VK → Prop) (tip : TIp) (tset : TSet) : TS := fun D σ H => to σ H fun o H1 => ti σ H1 fun i H2 => tget o i H2 fun x H3 => te σ H3 fun y H4 => tip x y H4 fun z H5 => tset o i z H5 fun H6 => D.nx σ H6
/-- o[i], by values -/
def PGet (X : Cx) (t : V → V → Hp → VK → Prop) : Prop :=
  ∀ (pins : List (Addr × Obj)) (s : Shared) (σ : St) (H : Hp) (o i : V) (ov iv : Value) (Q : VK), Inv X pins σ H s → RelV o ov → RelV i iv → t o i H Q →
    wpAny (model X.prog X.w) X.A (getItem ov iv) (EP X pins σ Q) X.xe s
/-- ints -/
def ipI (f : Int → Int → Int) : TIp := fun x y H Q => ∃ i j, x = .int i ∧ y = .int j ∧ Q (.int (f i j)) H
theorem ip_add : PIp X .Add (ipI fun i j => i + j) := by
  intro pins s σ H x y v u Q I r1 r2 h
  obtain ⟨i, j, e1, e2, q⟩ := h
  subst e1; subst e2
  obtain ⟨t, rfl⟩ := r1
  obtain ⟨t', rfl⟩ := r2
  exact iadd_int ⟨.int _, H, I.tok _, ⟨_, rfl⟩, q⟩
end

/-! ### while -/
section
variable {X : Cx} {pos : Pos}
/-- the invariant W with its measure -/
def tWhile (c : TT) (tb : TS) : TS := fun D σ H => ∃ W : Nat → St → Hp → Prop, (∃ m, W m σ H) ∧ ∀ m σ H, W m σ H →
  c σ H fun b H1 => if b = true then ∃ N : St → Hp → Prop, (∀ σ' H', N σ' H' → ∃ m', m' < m ∧ W m' σ' H') ∧ tb { D with nx := N, ct := N, bk := D.nx } σ H1 else D.nx σ H1
theorem ps_while {c : Expr} {body : List Stmt} {tc : TT} {tb : TS} (hp : PassesOwn (model X.prog X.w) X.A X.env X.xe) (hc : PT X c tc) (hb : PSs X body tb) : PS X (.While c body [] pos) (tWhile tc tb) := by
  intro pins s σ H D I h
  obtain ⟨W, ⟨m0, w0⟩, turn⟩ := h
  refine wpAny_While (codeAny_whileLoop (fun n s' => ∃ σ' H', Inv X pins σ' H' s' ∧ W n σ' H') ?_ m0 ⟨σ, H, I, w0⟩)
  rintro n s1 ⟨σ1, H1, I1, w1⟩
  refine wpAny_passesOwn hp (thn (hc pins s1 σ1 H1 _ I1 (turn n σ1 H1 w1)) fun b s2 ⟨H2, I2, q2⟩ => ?_)
  cases b with
  | true =>
    obtain ⟨N, hN, q2⟩ := q2
    rw [if_pos rfl]
    refine wpAny_passesOwn hp (thn (hb pins s2 σ1 H2 _ I2 q2) fun f s3 q3 => ?_)
    cases f with
    | next =>
      obtain ⟨σ3, H3, I3, n3⟩ := q3
      obtain ⟨m', hm, w3⟩ := hN σ3 H3 n3
      exact ⟨m', hm, σ3, H3, I3, w3⟩
    | cont =>
      obtain ⟨σ3, H3, I3, n3⟩ := q3
      obtain ⟨m', hm, w3⟩ := hN σ3 H3 n3
      exact ⟨m', hm, σ3, H3, I3, w3⟩
    | brk => exact q3
    | ret v => exact q3
  | false =>
    rw [if_neg Bool.false_ne_true]
    exact wpAny_execs_nil ⟨σ1, H2, I2, q2⟩
end

/-! ### what a loop or a comprehension walks -/
/-- at turn i: it yields x (the heap may grow), or it stops -/
structure It where
  go : Nat → Hp → Prop
  yld : Nat → Hp → V → Hp → Prop
  stop : Nat → Hp → Prop
/-- the iterator's own objects may turn: they are not the frame's, not pinned, younger than the entry (or a comprehension's own) -/
def FpOk (X : Cx) (pins : List (Addr × Obj)) (H : Hp) (b : Addr) : Prop :=
  H b = none ∧ b ≠ X.env.locals ∧ b ∉ X.fs ∧ (b ∈ X.ex ∨ X.s₀.heap.objs.size ≤ b) ∧ (∀ x c, X.env.cells.lookup x = some c → c ≠ b) ∧ ∀ p ∈ X.pn ++ pins, p.1 ≠ b
theorem Inv.fpOk {X : Cx} {pins : List (Addr × Obj)} {σ : St} {H H' : Hp} {s : Shared} {b : Addr} (I : Inv X pins σ H s) (hb : s.heap.objs.size ≤ b) (hn : H' b = none) : FpOk X pins H' b := by
  refine ⟨hn, Nat.ne_of_gt (Nat.lt_of_lt_of_le I.lt hb), I.nofs hb, .inr (Nat.le_trans I.sz hb), fun x c e z => ?_, fun p hp z => ?_⟩
  · obtain ⟨v, q⟩ := I.cell x c e
    exact absurd (Nat.lt_of_lt_of_le q.lt (by rw [z]; exact hb)) (Nat.lt_irrefl _)
  · exact absurd (Nat.lt_of_lt_of_le (Heap.lt_size (I.pin p hp).1) (by rw [z]; exact hb)) (Nat.lt_irrefl _)
structure Turn (P : Program) (w : World) (K : PySem.W.Frag) (tg : Expr) (J : It) (fp : List Addr) (it : Addr) (tn : Nat → Heap → Prop) : Prop where
  mem : it ∈ fp
  obj : ∀ i h, tn i h → ∀ b ∈ fp, ∃ o, h.get? b = some o ∧ ∀ v, o.data ≠ .cell v
  keep : ∀ i h h', tn i h → (∀ b ∈ fp, ∀ o, h.get? b = some o → h'.get? b = some o) → tn i h'
  item : ∀ (X : Cx), X.prog = P → X.w = w → X.K = K → X.calm = true → ∀ (i : Nat) (pins : List (Addr × Obj)) (s : Shared) (σ : St) (H : Hp) (E : Value → Shared → Prop), Inv X pins σ H s → (∀ b ∈ fp, FpOk X pins H b) → tn i s.heap → J.go i H →
    wpAny (model P w) X.A (pyNext (.ref it)) (fun r s1 => ∃ u, r = some u ∧
      wpAny (model P w) X.A (letOwnedTupleGo tg (.ref it) u) (fun _ s2 => ∃ x H', Inv X pins σ H' s2 ∧ RelV x u ∧ J.yld i H x H' ∧ tn (i + 1) s2.heap ∧ ∀ b ∈ fp, H' b = none) E s1) E s
  done : ∀ (X : Cx), X.prog = P → X.w = w → X.K = K → X.calm = true → ∀ (i : Nat) (pins : List (Addr × Obj)) (s : Shared) (σ : St) (H : Hp) (E : Value → Shared → Prop), Inv X pins σ H s → (∀ b ∈ fp, FpOk X pins H b) → tn i s.heap → J.stop i H →
    wpAny (model P w) X.A (pyNext (.ref it)) (fun r s1 => r = none ∧ Inv X pins σ H s1) E s
  self : ∀ (A : Around) (i : Nat) (s : Shared) (Q : Value → Shared → Prop) (E : Value → Shared → Prop), tn i s.heap → Q (.ref it) s → wpAny (model P w) A (pyIter (.ref it)) Q E s
abbrev TI := St → Hp → (It → Hp → Prop) → Prop
/-- an iterator has come -/
def PIE (X : Cx) (pins : List (Addr × Obj)) (σ : St) (tg : Expr) (R : It → Hp → Prop) (itv : Value) (s2 : Shared) : Prop :=
  ∃ (it : Addr) (fp : List Addr) (tn : Nat → Heap → Prop) (J : It) (H' : Hp), itv = .ref it ∧ Inv X pins σ H' s2 ∧ Turn X.prog X.w X.K tg J fp it tn ∧ tn 0 s2.heap ∧ (∀ b ∈ fp, FpOk X pins H' b) ∧ R J H'
def PI (X : Cx) (tg iter : Expr) (wi : TI) : Prop :=
  ∀ (pins : List (Addr × Obj)) (s : Shared) (σ : St) (H : Hp) (R : It → Hp → Prop), Inv X pins σ H s → wi σ H R →
    wpAny (model X.prog X.w) X.A (eval iter X.env) (fun v s1 => wpAny (model X.prog X.w) X.A (pyIter v) (PIE X pins σ tg R) X.xe s1) X.xe s

/-- the step ahead of the store is nothing for an iterator that keeps no tuple -/
theorem go_of {M : Model} {A : Around} {E : Value → Shared → Prop} {s : Shared} {tg : Expr} {it : Addr} {u : Value} {o : Obj} {n : String} {vs : Array Value} {Q : Unit → Shared → Prop} (ho : s.heap.get? it = some o) (hc : o.cls = .type n) (hd : o.data = .fields vs)
    (hn : ["enumerate", "zip", "dict_itemiterator", "dict_reverseitemiterator", "odict_iterator", "itertools.zip_longest", "itertools.pairwise"].contains n = false) (hQ : Q () s) : wpAny M A (letOwnedTupleGo tg (.ref it) u) Q E s := by
  unfold letOwnedTupleGo
  cases tg <;> first
    | exact wpAny_pure hQ
    | (cases u <;> first
        | exact wpAny_pure hQ
        | (refine wpAny_bind (wpAny_load ho ?_)
           rw [hc, hd]
           show wpAny M A (if (["enumerate", "zip", "dict_itemiterator", "dict_reverseitemiterator", "odict_iterator", "itertools.zip_longest", "itertools.pairwise"].contains n && vs[0]? == some (rawInt _)) = true then _ else _) Q E s
           rw [if_neg (by intro h; rw [hn, Bool.false_and] at h; cases h)]
           exact wpAny_pure hQ))

/-- the list at a, as it stands at each turn (a loop may append to it) -/
def Itl (K : PySem.W.Frag) (a : Addr) : It :=
  ⟨fun i H => ∃ xs x, SqL K H a xs ∧ xs[i]? = some x, fun i H x H' => H' = H ∧ ∀ xs, SqL K H a xs → xs[i]? = some x, fun i H => ∃ xs, SqL K H a xs ∧ xs.length ≤ i⟩
def Itt (K : PySem.W.Frag) (a : Addr) : It :=
  ⟨fun i H => ∃ xs x, SqT K H a xs ∧ xs[i]? = some x, fun i H x H' => H' = H ∧ ∀ xs, SqT K H a xs → xs[i]? = some x, fun i H => ∃ xs, SqT K H a xs ∧ xs.length ≤ i⟩
/-- lo, lo + 1, .. (n of them) -/
def Itr (lo : Int) (n : Nat) : It := ⟨fun i _ => i < n, fun i H x H' => H' = H ∧ x = .int (lo + i), fun i _ => n ≤ i⟩
theorem turn_list {P : Program} {w : World} {K : PySem.W.Frag} {tg : Expr} (a it : Addr) : Turn P w K tg (Itl K a) [it] it (fun i h => h.IsListIter it a i) where
  mem := by simp
  obj := fun i h st b hb => by
    have e : b = it := by simpa using hb
    subst e
    obtain ⟨o, e, c, d⟩ := st
    exact ⟨o, e, fun v z => by rw [d] at z; cases z⟩
  keep := fun i h h' st k => st.at fun o e => k it (by simp) o e
  item := by
    intro X hP hw hK hc i pins s σ H E I hf st hg
    subst hP hw hK
    obtain ⟨xs, x, hq, hx⟩ := hg
    obtain ⟨its, rv, p, hz⟩ := I.list hq
    obtain ⟨u, hu, ru⟩ := rv.get hx
    obtain ⟨f0, f1, f2, f3, f4, f5⟩ := hf it (by simp)
    refine wpAny_pyNext_list_item st p.isList (x := u) (by simpa using hu) fun h' st' sb => ?_
    have I1 : Inv X pins σ H { s with heap := h' } := I.turned (t' := s.toks) (fun b o hb e => (sb.2 b hb).trans e) f0 f1 f3 f4 f5
    obtain ⟨o, e, c, d⟩ := id st'
    exact ⟨u, rfl, go_of (s := { s with heap := h' }) e c d (by decide) ⟨x, H, I1, ru, ⟨rfl, fun ys hy => by rw [I.list_inj hy hq]; exact hx⟩, st', fun b hb => (hf b hb).1⟩⟩
  done := by
    intro X hP hw hK hc i pins s σ H E I hf st hg
    subst hP hw hK
    obtain ⟨xs, hq, hx⟩ := hg
    obtain ⟨its, rv, p, hz⟩ := I.list hq
    obtain ⟨f0, f1, f2, f3, f4, f5⟩ := hf it (by simp)
    have hl := rv.length
    exact wpAny_pyNext_list_end (I.ok.hd hc) st p.isList (by simp; omega) fun h' eb => ⟨rfl, I.turned (t' := s.toks) (fun b o hb e => eb b o hb e) f0 f1 f3 f4 f5⟩
  self := fun _ _ _ _ _ st h => wpAny_pyIter_listiter st h
theorem turn_range {P : Program} {w : World} {K : PySem.W.Frag} {tg : Expr} (it : Addr) (lo : Int) (n : Nat) : Turn P w K tg (Itr lo n) [it] it (fun i h => IsRangeIter h it (lo + (i : Nat) * 1) ((n : Int) - (i : Nat)) 1) where
  mem := by simp
  obj := fun i h st b hb => by
    have e : b = it := by simpa using hb
    subst e
    exact ⟨_, st, fun v z => by
      have z' : Data.fields _ = Data.cell v := z
      cases z'⟩
  keep := fun i h h' st k => k it (by simp) _ st
  item := by
    intro X hP hw hK hc i pins s σ H E I hf st hg
    subst hP hw hK
    obtain ⟨f0, f1, f2, f3, f4, f5⟩ := hf it (by simp)
    have W := Walks.range (prog := X.prog) (w := X.w) (I.ok.hd hc) it lo 1 n
    refine W.item i s _ _ hg st fun v h' tk hv st' kk => ?_
    obtain ⟨t, rfl⟩ := hv
    have I1 : Inv X pins σ H { s with heap := h', toks := tk } := I.turned (fun b o hb e => kk b o (by simpa using hb) e) f0 f1 f3 f4 f5
    refine ⟨_, rfl, go_of (s := { s with heap := h', toks := tk }) (n := "range_iterator") st' rfl rfl (by decide) ⟨.int (lo + i), H, I1, ⟨t, ?_⟩, ⟨rfl, rfl⟩, st', fun b hb => (hf b hb).1⟩⟩
    rw [Int.mul_one]
  done := by
    intro X hP hw hK hc i pins s σ H E I hf st hg
    subst hP hw hK
    obtain ⟨f0, f1, f2, f3, f4, f5⟩ := hf it (by simp)
    exact wpAny_pyNext_range_end (I.ok.hd hc) st (by have : n ≤ i := hg; omega) fun h' eb => ⟨rfl, I.turned (t' := s.toks) (fun b o hb e => eb b o hb e) f0 f1 f3 f4 f5⟩
  self := fun _ _ _ _ _ st h => wpAny_pyIter_rangeiter st h
end L2

namespace L2
open PySem PySem.Spec PyProof.Rows
section
variable {X : Cx} {tg : Expr}
def iList (K : PySem.W.Frag) (tl : TE) : TI := fun σ H R => tl σ H fun x H1 => ∃ a, x = .ref a ∧ (∃ xs, SqL K H1 a xs) ∧ R (Itl K a) H1
def iTup (K : PySem.W.Frag) (tl : TE) : TI := fun σ H R => tl σ H fun x H1 => ∃ a, x = .ref a ∧ (∃ xs, SqT K H1 a xs) ∧ R (Itt K a) H1
theorem pi_list {l : Expr} {tl : TE} (hl : PE X l tl) : PI X tg l (iList X.K tl) := by
  intro pins s σ H R I h
  refine thn (hl pins s σ H _ I h) fun v s1 ⟨x, H1, I1, r1, q1⟩ => ?_
  obtain ⟨a, e, ⟨xs, hq⟩, q⟩ := q1
  subst e
  cases r1
  obtain ⟨its, rv, p, hz⟩ := I1.list hq
  refine wpAny_pyIter_list p.isList ?_
  refine ⟨s1.heap.objs.size, [s1.heap.objs.size], _, _, H1, rfl, I1.kept (t' := s1.toks) fun b o e => Heap.get?_push_of_some _ e, turn_list a _, ⟨_, Heap.get?_push_size _ rfl, rfl, rfl⟩, fun b hb => ?_, q⟩
  have e : b = s1.heap.objs.size := by simpa using hb
  subst e
  exact I1.fpOk (Nat.le_refl _) (I1.hok.fresh (Nat.le_refl _))
/-- a range object just made, walked -/
theorem range_it {pins : List (Addr × Obj)} {σ : St} {H : Hp} {s : Shared} {R : It → Hp → Prop} {E : Value → Shared → Prop} {lo hi : Int} {t u v : Tok} {tk : Nat} (I : Inv X pins σ H s) (h1 : -(2 ^ 62) ≤ lo) (h2 : lo < 2 ^ 62) (h3 : -(2 ^ 62) ≤ hi) (h4 : hi < 2 ^ 62)
    (q : R (Itr lo (hi - lo).toNat) H) : wpAny (model X.prog X.w) X.A (pyIter (.ref s.heap.objs.size)) (PIE X pins σ tg R) E { s with heap := s.heap.push { cls := .type "range", data := .fields #[.int lo t, .int hi u, .int 1 v] }, toks := tk } := by
  refine wpAny_pyIter_range (IsRange.new ..) (small_one h1 h2 h3 h4) ?_
  have I1 : Inv X pins σ H { s with heap := s.heap.push { cls := .type "range", data := .fields #[.int lo t, .int hi u, .int 1 v] }, toks := tk } := I.kept fun b o e => Heap.get?_push_of_some _ e
  refine ⟨(s.heap.push { cls := .type "range", data := .fields #[.int lo t, .int hi u, .int 1 v] }).objs.size, [(s.heap.push { cls := .type "range", data := .fields #[.int lo t, .int hi u, .int 1 v] }).objs.size], _, _, H, rfl,
    I1.kept (t' := tk) fun b o e => Heap.get?_push_of_some _ e, turn_range _ lo (hi - lo).toNat, ?_, fun b hb => ?_, q⟩
  · have e1 : lo + ((0 : Nat) : Int) * 1 = lo := by simp
    have e2 : (((hi - lo).toNat : Nat) : Int) - ((0 : Nat) : Int) = Builtin.Range.rangeSize lo hi 1 := by rw [rangeSize_one]; split <;> omega
    show IsRangeIter _ _ (lo + ((0 : Nat) : Int) * 1) ((((hi - lo).toNat : Nat) : Int) - ((0 : Nat) : Int)) 1
    rw [e1, e2]
    exact Heap.get?_push_size _ rfl
  · have e : b = (s.heap.push { cls := .type "range", data := .fields #[.int lo t, .int hi u, .int 1 v] }).objs.size := by simpa using hb
    subst e
    exact I1.fpOk (Nat.le_refl _) (I1.hok.fresh (Nat.le_refl _))
def iRng1 (ta : TA) : TI := fun σ H R => ta σ H fun vs H1 => ∃ j : Int, vs = [.int j] ∧ -(2 ^ 62) ≤ j ∧ j < 2 ^ 62 ∧ R (Itr 0 j.toNat) H1
def iRng2 (ta : TA) : TI := fun σ H R => ta σ H fun vs H1 => ∃ i j : Int, vs = [.int i, .int j] ∧ (-(2 ^ 62) ≤ i ∧ i < 2 ^ 62 ∧ -(2 ^ 62) ≤ j ∧ j < 2 ^ 62) ∧ R (Itr i (j - i).toNat) H1
theorem pi_range1 {a : Expr} {ta : TA} {p pos : Pos} (hg : Gl X "range") (hm : X.mg "range" = none) (ha : PA X [a] ta) (hs : starEach [a] X.env = [(false, eval a X.env)] := by rfl) : PI X tg (.Call (.Name "range" p) [a] [] pos) (iRng1 ta) := by
  intro pins s σ H R I h
  refine Call_ (ld_blt I hg hm boot_range (PyProof.Rows.callWith_type1 (thn (ha pos pins s σ H _ I h) fun us s1 ⟨vs, H1, I1, r1, q1⟩ => ?_) hs rfl))
  obtain ⟨j, e, q1, q2, q⟩ := q1
  subst e
  cases r1 with
  | cons r rr =>
    cases rr
    obtain ⟨t, rfl⟩ := r
    exact call_range_1 (range_it I1 (by omega) (by omega) q1 q2 (by simpa using q))

/-! ### for -/
/-- W: the invariant by the turn and a measure; N: what the body is to reach -/
def tFor (wi : TI) (g : TG) (tb : TS) : TS := fun D σ H => wi σ H fun J H1 => ∃ W : Nat → Nat → St → Hp → Prop, (∃ m, W 0 m σ H1) ∧ ∀ i m σ H, W i m σ H →
  (J.stop i H ∧ D.nx σ H) ∨ (J.go i H ∧ ∃ N : St → Hp → Prop, (∀ σ' H', N σ' H' → ∃ m', m' < m ∧ W (i + 1) m' σ' H') ∧ ∀ x H', J.yld i H x H' → g x σ H' fun σ2 H2 => tb { D with nx := N, ct := N, bk := D.nx } σ2 H2)
/-- the records at fp as they stand -/
def pinsAt (fp : List Addr) (h : Heap) : List (Addr × Obj) := fp.filterMap fun b => (h.get? b).map fun o => (b, o)
theorem mem_pinsAt {fp : List Addr} {h : Heap} {b : Addr} {o : Obj} (hb : b ∈ fp) (e : h.get? b = some o) : (b, o) ∈ pinsAt fp h := List.mem_filterMap.mpr ⟨b, hb, by rw [e]; rfl⟩
theorem of_pinsAt {fp : List Addr} {h : Heap} {p : Addr × Obj} (hp : p ∈ pinsAt fp h) : p.1 ∈ fp ∧ h.get? p.1 = some p.2 := by
  obtain ⟨b, hb, e⟩ := List.mem_filterMap.mp hp
  cases q : h.get? b with
  | none => rw [q] at e; cases e
  | some o =>
    rw [q] at e
    have e' : (b, o) = p := Option.some.inj e
    subst e'
    exact ⟨hb, q⟩
theorem Inv.pinned {pins : List (Addr × Obj)} {σ : St} {H : Hp} {s : Shared} {fp : List Addr} (I : Inv X pins σ H s) (hf : ∀ b ∈ fp, FpOk X pins H b) (ho : ∀ b ∈ fp, ∃ o, s.heap.get? b = some o ∧ ∀ v, o.data ≠ .cell v) : Inv X (pins ++ pinsAt fp s.heap) σ H s :=
  I.pins_of fun p hp => (List.mem_append.mp hp).elim (fun z => I.pin p (List.mem_append_right _ z)) fun z => by
    obtain ⟨hb, e⟩ := of_pinsAt z
    obtain ⟨f0, f1, f2, _⟩ := hf p.1 hb
    obtain ⟨o, e', d⟩ := ho p.1 hb
    rw [e] at e'; cases e'
    exact ⟨e, f0, f1, f2, d⟩
theorem Inv.unpinned {pins pl : List (Addr × Obj)} {σ : St} {H : Hp} {s : Shared} (I : Inv X (pins ++ pl) σ H s) : Inv X pins σ H s := I.pins_of fun p hp => I.pin p (List.mem_append_right _ (List.mem_append_left _ hp))
theorem ps_for {iter : Expr} {body : List Stmt} {wi : TI} {g : TG} {tb : TS} {pos : Pos} (hp : PassesOwn (model X.prog X.w) X.A X.env X.xe) (hc : X.calm = true) (hi : PI X tg iter wi) (hg : PG X tg g) (hb : PSs X body tb)
    (hs : ∀ x, foldedSetIterable iter X.env x = pure x := by intro _; rfl) : PS X (.For tg iter body [] pos) (tFor wi g tb) := by
  intro pins s σ H D I h
  refine wpAny_For (thn (hi pins s σ H _ I h) fun v s1 h1 => thn h1 fun itv s2 h2 => ?_) hs
  obtain ⟨it, fp, tn, J, H2, e, I2, T, st2, f2, W, ⟨m0, w0⟩, turn⟩ := h2
  subst e
  -- what stays true of the iterator's objects through the loop
  have stat : ∀ {H' : Hp}, (∀ b ∈ fp, H' b = none) → ∀ b ∈ fp, FpOk X pins H' b := fun hn b hb => ⟨hn b hb, (f2 b hb).2⟩
  refine codeAny_forLoop_any (fun n s' => ∃ i σ' H', Inv X pins σ' H' s' ∧ tn i s'.heap ∧ (∀ b ∈ fp, H' b = none) ∧ W i n σ' H') ?_ m0 ⟨0, σ, H2, I2, st2, fun b hb => (f2 b hb).1, w0⟩
  rintro n s3 ⟨i, σ3, H3, I3, st3, fr3, w3⟩
  rcases turn i n σ3 H3 w3 with ⟨stop, qn⟩ | ⟨go, N, hN, step⟩
  · refine wpAny_passesOwn hp (thn (T.done X rfl rfl rfl hc i pins s3 σ3 H3 X.xe I3 (stat fr3) st3 stop) fun r s4 ⟨hr, I4⟩ => ?_)
    subst hr
    exact wpAny_execs_nil ⟨σ3, H3, I4, qn⟩
  · refine wpAny_passesOwn hp (thn (T.item X rfl rfl rfl hc i pins s3 σ3 H3 X.xe I3 (stat fr3) st3 go) fun r s4 ⟨u, hr, h4⟩ => ?_)
    subst hr
    refine wpAny_passesOwn hp (thn h4 fun _ s5 ⟨x, H5, I5, r5, y5, st5, fr5⟩ => ?_)
    have I5' := I5.pinned (stat fr5) (T.obj _ _ st5)
    refine wpAny_passesOwn hp (thn (hg _ s5 σ3 H5 x u _ I5' r5 (step x H5 y5)) fun _ s6 ⟨σ6, H6, I6, q6⟩ => ?_)
    refine wpAny_passesOwn hp (thn (hb _ s6 σ6 H6 _ I6 q6) fun f s7 q7 => ?_)
    have again : ∀ {σ7 : St} {H7 : Hp}, Inv X (pins ++ pinsAt fp s5.heap) σ7 H7 s7 → N σ7 H7 → ∃ m, m < n ∧ ∃ i σ' H', Inv X pins σ' H' s7 ∧ tn i s7.heap ∧ (∀ b ∈ fp, H' b = none) ∧ W i m σ' H' := fun {σ7 H7} I7 n7 => by
      obtain ⟨m', hm, w7⟩ := hN σ7 H7 n7
      refine ⟨m', hm, i + 1, σ7, H7, I7.unpinned, T.keep _ _ _ st5 fun b hb o e => (I7.pin (b, o) (List.mem_append_right _ (List.mem_append_right _ (mem_pinsAt hb e)))).1, fun b hb => ?_, w7⟩
      obtain ⟨o, e, d⟩ := T.obj _ _ st5 b hb
      exact (I7.pin (b, o) (List.mem_append_right _ (List.mem_append_right _ (mem_pinsAt hb e)))).2.1
    cases f with
    | next => obtain ⟨σ7, H7, I7, n7⟩ := q7; exact again I7 n7
    | cont => obtain ⟨σ7, H7, I7, n7⟩ := q7; exact again I7 n7
    | brk => obtain ⟨σ7, H7, I7, q7⟩ := q7; exact ⟨σ7, H7, I7.unpinned, q7⟩
    | ret v => obtain ⟨x7, σ7, H7, I7, r7, q7⟩ := q7; exact ⟨x7, σ7, H7, I7.unpinned, r7, q7⟩
end

/-! ### the forms one uses -/
/-- over a list that the body leaves as it is -/
theorem for_list {K : PySem.W.Frag} {a : Addr} {xs : List V} {g : TG} {tb : TS} {D : Ends} {σ : St} {H : Hp} (Pv : Nat → St → Hp → Prop) (h0 : Pv 0 σ H) (hl : ∀ i σ H, i ≤ xs.length → Pv i σ H → SqL K H a xs)
    (hs : ∀ i x σ H, xs[i]? = some x → Pv i σ H → g x σ H fun σ2 H2 => tb { D with nx := Pv (i + 1), ct := Pv (i + 1), bk := D.nx } σ2 H2) (hd : ∀ σ H, Pv xs.length σ H → D.nx σ H) :
    ∃ W : Nat → Nat → St → Hp → Prop, (∃ m, W 0 m σ H) ∧ ∀ i m σ H, W i m σ H →
      ((Itl K a).stop i H ∧ D.nx σ H) ∨ ((Itl K a).go i H ∧ ∃ N : St → Hp → Prop, (∀ σ' H', N σ' H' → ∃ m', m' < m ∧ W (i + 1) m' σ' H') ∧ ∀ x H', (Itl K a).yld i H x H' → g x σ H' fun σ2 H2 => tb { D with nx := N, ct := N, bk := D.nx } σ2 H2) := by
  refine ⟨fun i m σ H => m = xs.length - i ∧ i ≤ xs.length ∧ Pv i σ H, ⟨xs.length, by simp, Nat.zero_le _, h0⟩, ?_⟩
  rintro i m σ H ⟨rfl, hi, p⟩
  have q := hl i σ H hi p
  by_cases hlt : i < xs.length
  · refine .inr ⟨⟨xs, xs[i], q, by simp [hlt]⟩, Pv (i + 1), fun σ' H' p' => ⟨xs.length - (i + 1), by omega, rfl, hlt, p'⟩, fun x H' y => ?_⟩
    obtain ⟨e, y⟩ := y
    subst e
    exact hs i x σ _ (y xs q) p
  · have e : i = xs.length := by omega
    subst e
    exact .inl ⟨⟨xs, q, Nat.le_refl _⟩, hd σ H p⟩
theorem for_range {lo : Int} {n : Nat} {g : TG} {tb : TS} {D : Ends} {σ : St} {H : Hp} (Pv : Nat → St → Hp → Prop) (h0 : Pv 0 σ H)
    (hs : ∀ i σ H, i < n → Pv i σ H → g (.int (lo + i)) σ H fun σ2 H2 => tb { D with nx := Pv (i + 1), ct := Pv (i + 1), bk := D.nx } σ2 H2) (hd : ∀ σ H, Pv n σ H → D.nx σ H) :
    ∃ W : Nat → Nat → St → Hp → Prop, (∃ m, W 0 m σ H) ∧ ∀ i m σ H, W i m σ H →
      ((Itr lo n).stop i H ∧ D.nx σ H) ∨ ((Itr lo n).go i H ∧ ∃ N : St → Hp → Prop, (∀ σ' H', N σ' H' → ∃ m', m' < m ∧ W (i + 1) m' σ' H') ∧ ∀ x H', (Itr lo n).yld i H x H' → g x σ H' fun σ2 H2 => tb { D with nx := N, ct := N, bk := D.nx } σ2 H2) := by
  refine ⟨fun i m σ H => m = n - i ∧ i ≤ n ∧ Pv i σ H, ⟨n, by simp, Nat.zero_le _, h0⟩, ?_⟩
  rintro i m σ H ⟨rfl, hi, p⟩
  by_cases hlt : i < n
  · refine .inr ⟨hlt, Pv (i + 1), fun σ' H' p' => ⟨n - (i + 1), by omega, rfl, hlt, p'⟩, fun x H' y => ?_⟩
    obtain ⟨e, y⟩ := y
    subst e y
    exact hs i σ _ hlt p
  · have e : i = n := by omega
    subst e
    exact .inl ⟨Nat.le_refl _, hd σ H p⟩
end L2

namespace L2
open PySem PySem.Spec PyProof.Rows

abbrev R2 := V → V → Hp → VK → Prop
/-- a two-place operation on values: f is binaryOp op, inplaceOp op or compareOp op -/
def OpR (X : Cx) (f : Value → Value → Sem Value) (r : R2) : Prop :=
  ∀ (pins : List (Addr × Obj)) (s : Shared) (σ : St) (H : Hp) (x y : V) (v u : Value) (Q : VK), Inv X pins σ H s → RelV x v → RelV y u → r x y H Q →
    wpAny (model X.prog X.w) X.A (f v u) (EP X pins σ Q) X.xe s
/-- a one-place operation -/
def UnR (X : Cx) (f : Value → Sem Value) (r : V → Hp → VK → Prop) : Prop :=
  ∀ (pins : List (Addr × Obj)) (s : Shared) (σ : St) (H : Hp) (x : V) (v : Value) (Q : VK), Inv X pins σ H s → RelV x v → r x H Q →
    wpAny (model X.prog X.w) X.A (f v) (EP X pins σ Q) X.xe s
/-- a call of a value that is known (a builtin, a type) with values -/
def CallR (X : Cx) (f : Value) (r : List V → Hp → VK → Prop) : Prop :=
  ∀ (pins : List (Addr × Obj)) (s : Shared) (σ : St) (H : Hp) (xs : List V) (us : List Value) (Q : VK), Inv X pins σ H s → Vals xs us → r xs H Q →
    wpAny (model X.prog X.w) X.A (call f us) (EP X pins σ Q) X.xe s
/-- a value's truth -/
def TruR (X : Cx) (r : V → Hp → (Bool → Hp → Prop) → Prop) : Prop :=
  ∀ (pins : List (Addr × Obj)) (s : Shared) (σ : St) (H : Hp) (x : V) (v : Value) (Q : Bool → Hp → Prop), Inv X pins σ H s → RelV x v → r x H Q →
    wpAny (model X.prog X.w) X.A (truthy v) (TP X pins σ Q) X.xe s

def tOp (r : R2) (ta tb : TE) : TE := fun σ H Q => ta σ H fun x H1 => tb σ H1 fun y H2 => r x y H2 Q
def tUn (r : V → Hp → VK → Prop) (ta : TE) : TE := fun σ H Q => ta σ H fun x H1 => r x H1 Q
/-- ints in, under C, and a value out -/
def rI (C : Int → Int → Prop) (g : Int → Int → V) : R2 := fun x y H Q => ∃ i j, x = .int i ∧ y = .int j ∧ C i j ∧ Q (g i j) H
def rI0 (g : Int → Int → V) : R2 := fun x y H Q => ∃ i j, x = .int i ∧ y = .int j ∧ Q (g i j) H
def rU (g : Int → V) : V → Hp → VK → Prop := fun x H Q => ∃ i, x = .int i ∧ Q (g i) H

section
variable {X : Cx} {a b c : Expr} {ta tb tc : TE} {pos : Pos}

theorem binT (ha : PE X a ta) (hb : PE X b tb) {pins : List (Addr × Obj)} {s : Shared} {σ : St} {H : Hp} {R : V → V → Hp → Prop} (I : Inv X pins σ H s)
    (h : ta σ H fun x H1 => tb σ H1 fun y H2 => R x y H2) {Q : Value → Shared → Prop} {f : Value → Value → Sem Value}
    (hf : ∀ v u s2 x y H2, Inv X pins σ H2 s2 → RelV x v → RelV y u → R x y H2 → wpAny (model X.prog X.w) X.A (f v u) Q X.xe s2) :
    wpAny (model X.prog X.w) X.A (eval a X.env) (fun v s₁ => wpAny (model X.prog X.w) X.A (eval b X.env) (fun u s₂ => wpAny (model X.prog X.w) X.A (f v u) Q X.xe s₂) X.xe s₁) X.xe s := by
  refine thn (ha pins s σ H _ I h) fun v s1 ⟨x, H1, I1, r1, q1⟩ => ?_
  refine thn (hb pins s1 σ H1 _ I1 q1) fun u s2 ⟨y, H2, I2, r2, q2⟩ => ?_
  exact hf v u s2 x y H2 I2 r1 r2 q2

theorem pe_op {op : Operator} {r : R2} (ho : OpR X (binaryOp op) r) (ha : PE X a ta) (hb : PE X b tb) : PE X (.BinOp a op b pos) (tOp r ta tb) := by
  intro pins s σ H Q I h
  exact wpAny_BinOp (binT ha hb I h fun v u s2 x y H2 I2 rx ry q => ho pins s2 σ H2 x y v u Q I2 rx ry q)
theorem pe_un {op : UnaryOp} {r : V → Hp → VK → Prop} (ho : UnR X (unaryOp op) r) (ha : PE X a ta) : PE X (.UnaryOp op a pos) (tUn r ta) := by
  intro pins s σ H Q I h
  exact UnaryOp_ (thn (ha pins s σ H _ I h) fun v s1 ⟨x, H1, I1, r1, q1⟩ => ho pins s1 σ H1 x v Q I1 r1 q1)

/-! ### ints -/
theorem opI {f : Value → Value → Sem Value} {C : Int → Int → Prop} {g : Int → Int → Int}
    (rule : ∀ (i j : Int) (t u : Tok) (s : Shared) (Q : Value → Shared → Prop) (E : Value → Shared → Prop), C i j → Q (.int (g i j) s.toks) { s with toks := s.toks + 1 } → wpAny (model X.prog X.w) X.A (f (.int i t) (.int j u)) Q E s) :
    OpR X f (rI C fun i j => .int (g i j)) := by
  intro pins s σ H x y v u Q I rx ry h
  obtain ⟨i, j, rfl, rfl, hc, q⟩ := h
  obtain ⟨t, rfl⟩ := rx
  obtain ⟨t', rfl⟩ := ry
  exact rule i j t t' s _ _ hc ⟨.int (g i j), H, I.tok _, ⟨_, rfl⟩, q⟩
theorem opI0 {f : Value → Value → Sem Value} {g : Int → Int → Int}
    (rule : ∀ (i j : Int) (t u : Tok) (s : Shared) (Q : Value → Shared → Prop) (E : Value → Shared → Prop), Q (.int (g i j) s.toks) { s with toks := s.toks + 1 } → wpAny (model X.prog X.w) X.A (f (.int i t) (.int j u)) Q E s) :
    OpR X f (rI0 fun i j => .int (g i j)) := by
  intro pins s σ H x y v u Q I rx ry h
  obtain ⟨i, j, rfl, rfl, q⟩ := h
  obtain ⟨t, rfl⟩ := rx
  obtain ⟨t', rfl⟩ := ry
  exact rule i j t t' s _ _ ⟨.int (g i j), H, I.tok _, ⟨_, rfl⟩, q⟩
theorem opB0 {f : Value → Value → Sem Value} {g : Int → Int → Bool}
    (rule : ∀ (i j : Int) (t u : Tok) (s : Shared) (Q : Value → Shared → Prop) (E : Value → Shared → Prop), Q (.bool (g i j)) s → wpAny (model X.prog X.w) X.A (f (.int i t) (.int j u)) Q E s) :
    OpR X f (rI0 fun i j => .bl (g i j)) := by
  intro pins s σ H x y v u Q I rx ry h
  obtain ⟨i, j, rfl, rfl, q⟩ := h
  obtain ⟨t, rfl⟩ := rx
  obtain ⟨t', rfl⟩ := ry
  exact rule i j t t' s _ _ ⟨.bl (g i j), H, I, rfl, q⟩

def CDiv (i j : Int) : Prop := 0 < j ∧ j < 1073741824
def CDivN (i j : Int) : Prop := j ≠ 0 ∧ j.natAbs < 1073741824
def CPow (i j : Int) : Prop := 0 ≤ j ∧ j ≤ 1000000 ∧ i.natAbs < 2 ^ 64
def CMul (i j : Int) : Prop := (-(2 ^ 64) < i ∧ i < 2 ^ 64) ∨ (-(2 ^ 64) < j ∧ j < 2 ^ 64)
theorem CMul.ok {i j : Int} (h : CMul i j) : IntMulOk i j := by
  rcases h with ⟨h1, h2⟩ | ⟨h1, h2⟩
  · exact .of_left (intBits_le_64 h1 h2)
  · exact .of_right (intBits_le_64 h1 h2)

theorem op_add : OpR X (binaryOp .Add) (rI0 fun i j => .int (i + j)) := opI0 fun _ _ _ _ _ _ _ q => add_int q
theorem op_sub : OpR X (binaryOp .Sub) (rI0 fun i j => .int (i - j)) := opI0 fun _ _ _ _ _ _ _ q => sub_int q
theorem op_mul : OpR X (binaryOp .Mult) (rI CMul fun i j => .int (i * j)) := opI fun _ _ _ _ _ _ _ hc q => mul_int q hc.ok
/-- // by a positive divisor -/
theorem op_fdiv : OpR X (binaryOp .FloorDiv) (rI CDiv fun i j => .int (i / j)) := opI fun i j _ _ _ _ _ hc q => by
  have h1 : (0 : Int) < j := hc.1
  have h2 : j < 1073741824 := hc.2
  exact floordiv_int (by omega) (by rw [Int.fdiv_eq_ediv_of_nonneg i (by omega)]; exact q) (.inl (PyProof.noPylong_small (by omega)))
/-- % by a positive divisor of any size -/
theorem op_mod : OpR X (binaryOp .Mod) (rI (fun _ j => 0 < j) fun i j => .int (i % j)) := opI fun i j _ _ _ _ _ hc q => by
  have h1 : (0 : Int) < j := hc
  exact mod_int' (by omega) (by rw [Int.fmod_eq_emod_of_nonneg i (by omega)]; exact q)
theorem op_pow : OpR X (binaryOp .Pow) (rI CPow fun i j => .int (i ^ j.toNat)) := opI fun _ _ _ _ _ _ _ hc q => pow_int_small hc.1 hc.2.1 hc.2.2 q


theorem unI {f : Value → Sem Value} {g : Int → Int}
    (rule : ∀ (i : Int) (t : Tok) (s : Shared) (Q : Value → Shared → Prop) (E : Value → Shared → Prop), Q (.int (g i) s.toks) { s with toks := s.toks + 1 } → wpAny (model X.prog X.w) X.A (f (.int i t)) Q E s) :
    UnR X f (rU fun i => .int (g i)) := by
  intro pins s σ H x v Q I rx h
  obtain ⟨i, rfl, q⟩ := h
  obtain ⟨t, rfl⟩ := rx
  exact rule i t s _ _ ⟨.int (g i), H, I.tok _, ⟨_, rfl⟩, q⟩
theorem un_neg : UnR X (unaryOp .USub) (rU fun i => .int (-i)) := unI fun _ _ _ _ _ q => neg_int q

/-! ### bools among ints: n += (a < b) -/
end

/-! ### comparisons -/
/-- the scalars that == tells apart as data does -/
def scal : V → V → Bool
  | .non, .non => true | .non, .int _ => true | .int _, .non => true | .non, .bl _ => true | .bl _, .non => true | .non, .str _ => true | .str _, .non => true
  | .int _, .int _ => true | .bl _, .bl _ => true | .str _, .str _ => true | .byt _, .byt _ => true
  | .int _, .str _ => true | .str _, .int _ => true | .bl _, .str _ => true | .str _, .bl _ => true
  | _, _ => false
def rEq : R2 := fun x y H Q => scal x y = true ∧ Q (.bl (decide (x = y))) H
def rNe : R2 := fun x y H Q => scal x y = true ∧ Q (.bl (!decide (x = y))) H

theorem dec_int {i j : Int} : decide (V.int i = V.int j) = (i == j) := by
  rw [Bool.eq_iff_iff]
  simp
theorem dec_bl {i j : Bool} : decide (V.bl i = V.bl j) = (i == j) := by
  rw [Bool.eq_iff_iff]
  simp
theorem dec_str {i j : Str} : decide (V.str i = V.str j) = (i == j) := by
  rw [Bool.eq_iff_iff]
  simp
theorem dec_byt {i j : Array UInt8} : decide (V.byt i = V.byt j) = (i.toList == j.toList) := by
  rw [Bool.eq_iff_iff]
  cases i
  cases j
  simp

section
variable {X : Cx} {a b c : Expr} {ta tb tc : TE} {pos : Pos}
theorem fin_bl {pins : List (Addr × Obj)} {σ : St} {H : Hp} {s : Shared} {Q : VK} {k k' : Bool} (I : Inv X pins σ H s) (q : Q (.bl k) H) (e : k = k') : EP X pins σ Q (.bool k') s := by
  subst e
  exact ⟨.bl k, H, I, rfl, q⟩
theorem op_eq : OpR X (compareOp .Eq) rEq := by
  intro pins s σ H x y v u Q I rx ry h
  obtain ⟨hs, q⟩ := h
  cases x with
  | non =>
    cases rx
    cases y with
    | non => cases ry; exact PySem.EqNone.eq_none_none (fin_bl I q (by simp))
    | bl j => cases ry; exact PySem.EqNone.eq_none_bool (fin_bl I q (by simp))
    | int j => obtain ⟨t', rfl⟩ := ry; exact PySem.EqNone.eq_none_int (fin_bl I q (by simp))
    | str j => obtain ⟨t', rfl⟩ := ry; exact PySem.EqNone.eq_none_str (fin_bl I q (by simp))
    | _ => exact absurd (show false = true from hs) Bool.false_ne_true
  | bl i =>
    cases rx
    cases y with
    | non => cases ry; exact PySem.EqNone.eq_bool_none (fin_bl I q (by simp))
    | bl j => cases ry; exact eq_bool (fin_bl I q dec_bl)
    | str j => obtain ⟨t', rfl⟩ := ry; exact PySem.EqMixed.eq_bool_str (fin_bl I q (by simp))
    | _ => exact absurd (show false = true from hs) Bool.false_ne_true
  | int i =>
    obtain ⟨t, rfl⟩ := rx
    cases y with
    | non => cases ry; exact PySem.EqNone.eq_int_none (fin_bl I q (by simp))
    | int j => obtain ⟨t', rfl⟩ := ry; exact eq_int (fin_bl I q dec_int)
    | str j => obtain ⟨t', rfl⟩ := ry; exact PySem.EqMixed.eq_int_str (fin_bl I q (by simp))
    | _ => exact absurd (show false = true from hs) Bool.false_ne_true
  | str i =>
    obtain ⟨t, rfl⟩ := rx
    cases y with
    | non => cases ry; exact PySem.EqNone.eq_str_none (fin_bl I q (by simp))
    | bl j => cases ry; exact PySem.EqMixed.eq_str_bool (fin_bl I q (by simp))
    | int j => obtain ⟨t', rfl⟩ := ry; exact PySem.EqMixed.eq_str_int (fin_bl I q (by simp))
    | str j => obtain ⟨t', rfl⟩ := ry; exact eq_str (fin_bl I q dec_str)
    | _ => exact absurd (show false = true from hs) Bool.false_ne_true
  | byt i =>
    obtain ⟨t, rfl⟩ := rx
    cases y with
    | byt j => obtain ⟨t', rfl⟩ := ry; exact PySem.W.eq_bytes (fin_bl I q dec_byt)
    | _ => exact absurd (show false = true from hs) Bool.false_ne_true
  | _ => cases y <;> exact absurd (show false = true from hs) Bool.false_ne_true
theorem op_ne : OpR X (compareOp .NotEq) rNe := by
  intro pins s σ H x y v u Q I rx ry h
  obtain ⟨hs, q⟩ := h
  cases x with
  | non =>
    cases rx
    cases y with
    | non => cases ry; exact PySem.EqNone.ne_none_none (fin_bl I q (by simp))
    | bl j => cases ry; exact PySem.EqNone.ne_none_bool (fin_bl I q (by simp))
    | int j => obtain ⟨t', rfl⟩ := ry; exact PySem.EqNone.ne_none_int (fin_bl I q (by simp))
    | str j => obtain ⟨t', rfl⟩ := ry; exact PySem.EqNone.ne_none_str (fin_bl I q (by simp))
    | _ => exact absurd (show false = true from hs) Bool.false_ne_true
  | bl i =>
    cases rx
    cases y with
    | non => cases ry; exact PySem.EqNone.ne_bool_none (fin_bl I q (by simp))
    | bl j => cases ry; exact ne_bool (fin_bl I q (congrArg not dec_bl))
    | str j => obtain ⟨t', rfl⟩ := ry; exact PySem.EqMixed.ne_bool_str (fin_bl I q (by simp))
    | _ => exact absurd (show false = true from hs) Bool.false_ne_true
  | int i =>
    obtain ⟨t, rfl⟩ := rx
    cases y with
    | non => cases ry; exact PySem.EqNone.ne_int_none (fin_bl I q (by simp))
    | int j => obtain ⟨t', rfl⟩ := ry; exact ne_int (fin_bl I q (congrArg not dec_int))
    | str j => obtain ⟨t', rfl⟩ := ry; exact PySem.EqMixed.ne_int_str (fin_bl I q (by simp))
    | _ => exact absurd (show false = true from hs) Bool.false_ne_true
  | str i =>
    obtain ⟨t, rfl⟩ := rx
    cases y with
    | non => cases ry; exact PySem.EqNone.ne_str_none (fin_bl I q (by simp))
    | bl j => cases ry; exact PySem.EqMixed.ne_str_bool (fin_bl I q (by simp))
    | int j => obtain ⟨t', rfl⟩ := ry; exact PySem.EqMixed.ne_str_int (fin_bl I q (by simp))
    | str j => obtain ⟨t', rfl⟩ := ry; exact ne_str (fin_bl I q (congrArg not dec_str))
    | _ => exact absurd (show false = true from hs) Bool.false_ne_true
  | byt i =>
    obtain ⟨t, rfl⟩ := rx
    cases y with
    | byt j => obtain ⟨t', rfl⟩ := ry; exact PySem.W.ne_bytes (fin_bl I q (congrArg not dec_byt))
    | _ => exact absurd (show false = true from hs) Bool.false_ne_true
  | _ => cases y <;> exact absurd (show false = true from hs) Bool.false_ne_true

theorem op_lt : OpR X (compareOp .Lt) (rI0 fun i j => .bl (decide (i < j))) := opB0 fun _ _ _ _ _ _ _ q => lt_int q
theorem op_le : OpR X (compareOp .LtE) (rI0 fun i j => .bl (decide (i ≤ j))) := opB0 fun _ _ _ _ _ _ _ q => le_int q
theorem op_gt : OpR X (compareOp .Gt) (rI0 fun i j => .bl (decide (j < i))) := opB0 fun _ _ _ _ _ _ _ q => gt_int q
theorem op_ge : OpR X (compareOp .GtE) (rI0 fun i j => .bl (decide (j ≤ i))) := opB0 fun _ _ _ _ _ _ _ q => ge_int q

theorem op_notN : OpR X (compareOp .IsNot) (fun x y H Q => y = .non ∧ Q (.bl (!decide (x = .non))) H) := by
  intro pins s σ H x y v u Q I rx ry h
  obtain ⟨rfl, q⟩ := h
  cases ry
  refine isnot_none_gen (fin_bl I q ?_)
  cases x <;> first
    | (cases rx; rfl)
    | (obtain ⟨t, rfl⟩ := rx; rfl)

/-- is, is not of two objects that are tracked lists or instances -/
def isObj : HO → Bool
  | .lst _ => true
  | .ins _ _ _ => true
  | _ => false


theorem nomark (b : Expr) {op : CmpOp} (h : op ≠ .In := by decide) (h2 : op ≠ .NotIn := by decide) : behindInMarks op b = false := by
  have e1 : (op == CmpOp.In) = false := by cases op <;> first | rfl | exact absurd rfl h
  have e2 : (op == CmpOp.NotIn) = false := by cases op <;> first | rfl | exact absurd rfl h2
  cases b <;> simp [behindInMarks, e1, e2]
/-- a comparison as a value; hm: nomark b, or (for in, not in) by with_unfolding_all rfl -/
theorem pe_cmpR {op : CmpOp} {r : R2} (ho : OpR X (compareOp op) r) (ha : PE X a ta) (hb : PE X b tb) (hm : behindInMarks op b = false) : PE X (.Compare a [op] [b] pos) (tOp r ta tb) := by
  intro pins s σ H Q I h
  exact wpAny_Compare1 (binT ha hb I h fun v u s2 x y H2 I2 rx ry q => ho pins s2 σ H2 x y v u Q I2 rx ry q) hm
/-- a reading of a value as a test -/
def tTest (t : TE) : TT := fun σ H Q => t σ H fun x H' => ∃ k, x = .bl k ∧ Q k H'
theorem pt_cmpR {op : CmpOp} {r : R2} (ho : OpR X (compareOp op) r) (ha : PE X a ta) (hb : PE X b tb) (hm : behindInMarks op b = false) : PT X (.Compare a [op] [b] pos) (tTest (tOp r ta tb)) := by
  intro pins s σ H Q I h
  refine wpAny_isTrue_Compare1 (thn (ha pins s σ H _ I h) fun v s1 ⟨x, H1, I1, r1, q1⟩ => thn (hb pins s1 σ H1 _ I1 q1) fun u s2 ⟨y, H2, I2, r2, q2⟩ =>
    thn (ho pins s2 σ H2 x y v u _ I2 r1 r2 q2) fun c s3 ⟨z, H3, I3, r3, k, e, q3⟩ => ?_) hm
  subst e
  cases r3
  exact wpAny_truthy_bool ⟨H3, I3, q3⟩
/-- a op1 b op2 c -/
def tChain (r r' : R2) (ta tb tc : TE) : TE := fun σ H Q => ta σ H fun x H1 => tb σ H1 fun y H2 => r x y H2 fun z H3 => ∃ k, z = .bl k ∧
  (if k = true then tc σ H3 fun w' H4 => r' y w' H4 Q else Q (.bl false) H3)
theorem pt_chain {op op' : CmpOp} {r r' : R2} (ho : OpR X (compareOp op) r) (ho' : OpR X (compareOp op') r') (ha : PE X a ta) (hb : PE X b tb) (hc : PE X c tc)
    (hm : lastMarks [op, op'] [b, c] = false := by with_unfolding_all rfl) : PT X (.Compare a [op, op'] [b, c] pos) (tTest (tChain r r' ta tb tc)) := by
  intro pins s σ H Q I h
  refine isTrue_chain (thn (ha pins s σ H _ I h) fun v s1 ⟨x, H1, I1, r1, q1⟩ => test_link (thn (hb pins s1 σ H1 _ I1 q1) fun u s2 ⟨y, H2, I2, r2, q2⟩ =>
    thn (ho pins s2 σ H2 x y v u _ I2 r1 r2 q2) fun d s3 ⟨z, H3, I3, r3, k, e, q3⟩ => ?_)) hm
  subst e
  cases r3
  refine wpAny_truthy_bool ?_
  cases k with
  | false =>
    obtain ⟨k', e', q'⟩ := q3
    cases e'
    exact ite_ff ⟨H3, I3, q'⟩
  | true =>
    refine ite_tt (test_last (thn (hc pins s3 σ H3 _ I3 q3) fun w' s4 ⟨z', H4, I4, r4, q4⟩ => thn (ho' pins s4 σ H4 y z' u w' _ I4 r2 r4 q4) fun d' s5 ⟨z2, H5, I5, r5, k2, e2, q5⟩ => ?_))
    subst e2
    cases r5
    exact wpAny_truthy_bool ⟨H5, I5, q5⟩

/-! ### truth -/
/-- a value's truth by the abstract heap -/
def TruV (K : PySem.W.Frag) (x : V) (H : Hp) (k : Bool) : Prop :=
  match x with
  | .non => k = false
  | .bl b => k = b
  | .int i => k = (i != 0)
  | .str y => y.length ≤ sizeLine ∧ k = ((y.length : Int) != 0)
  | .byt y => y.size ≤ sizeLine ∧ k = ((y.size : Int) != 0)
  | .ref p => (∃ xs, SqL K H p xs ∧ k = !xs.isEmpty) ∨ (∃ xs, SqT K H p xs ∧ k = !xs.isEmpty) ∨ ∃ kvs, H p = some (.dK kvs) ∧ k = !kvs.isEmpty
  | _ => False
theorem line63 : (sizeLine : Nat) < 2 ^ 63 := by rw [sizeLine_eq]; decide

/-! ### strs and bytes -/

def PlainIxT (b : Expr) : Prop := ∀ o i, subscripted b false o i = operate [o, i] (getItem o i)

/-! ### scalar builtins, by CallR -/
theorem vals1 {x : V} {us : List Value} (r : Vals [x] us) : ∃ u, us = [u] ∧ RelV x u := by
  cases r with
  | cons r1 r2 => cases r2; exact ⟨_, rfl, r1⟩
theorem vals2 {x y : V} {us : List Value} (r : Vals [x, y] us) : ∃ u w', us = [u, w'] ∧ RelV x u ∧ RelV y w' := by
  cases r with
  | cons r1 r2 =>
    cases r2 with
    | cons r3 r4 => cases r4; exact ⟨_, _, rfl, r1, r3⟩
theorem call_min2 (hc : X.calm = true) : CallR X (.builtin "min") (fun xs H Q => ∃ i j, xs = [.int i, .int j] ∧ Q (.int (if j < i then j else i)) H) := by
  intro pins s σ H xs us Q I r h
  obtain ⟨i, j, rfl, q⟩ := h
  obtain ⟨u, w', rfl, ⟨t, rfl⟩, ⟨t', rfl⟩⟩ := vals2 r
  refine min_two_ints (I.ok.hd hc) fun h' tk k => ⟨_, H, I.kept k, ?_, q⟩
  by_cases hj : j < i
  · rw [if_pos hj, if_pos hj]; exact ⟨_, rfl⟩
  · rw [if_neg hj, if_neg hj]; exact ⟨_, rfl⟩
/-- len of a str, a bytes, a list, a tuple -/
def LenV (K : PySem.W.Frag) (x : V) (H : Hp) (n : Nat) : Prop :=
  match x with
  | .str y => y.length ≤ sizeLine ∧ n = y.length
  | .byt y => y.size ≤ sizeLine ∧ n = y.size
  | .ref p => (∃ xs, SqL K H p xs ∧ n = xs.length) ∨ ∃ xs, SqT K H p xs ∧ n = xs.length
  | _ => False
end
end L2

namespace L2
open PySem PySem.Spec PyProof.Rows

/-! ### an instance, its attributes a map -/
structure ObjM (h : Heap) (x dx C : Addr) (mA : Str → Option Value) : Prop where
  obj : h.get? x = some (PySem.W.instObj C dx)
  ns : h.Ns1 dx mA
  ne : dx ≠ x

theorem lookIn_ns {h : Heap} {dx : Addr} {mA : Str → Option Value} (n : h.Ns1 dx mA) : ∃ od, h.get? dx = some od ∧ ∀ name, PySem.W.lookIn name od = some (mA name) := by
  obtain ⟨o, es, ep, ho, hd, hk, _, hm⟩ := n
  refine ⟨o, ho, fun name => ?_⟩
  have e := hm name
  unfold nsFind findBy at e
  rw [← Array.find?_toList] at e
  unfold PySem.W.lookIn
  rw [hd]
  dsimp only
  split
  · rename_i y q
    rw [q] at e
    exact congrArg some e
  · rename_i q
    rw [q] at e
    have a : es.toList.any (·.refKey) = false := by
      rw [List.any_eq_false]
      intro y hy
      obtain ⟨z, t, hkey⟩ := hk y (Array.mem_toList_iff.mp hy)
      simp [DictEntry.refKey, hkey]
    have a' : ¬ es.toList.any (·.refKey) = true := by rw [a]; exact Bool.false_ne_true
    rw [if_neg a']
    exact congrArg some e

theorem ObjM.look {h : Heap} {x dx C : Addr} {mA : Str → Option Value} (I : ObjM h x dx C mA) : ∃ od, PySem.W.InstAt h x (PySem.W.instObj C dx) C (some od) ∧ ∀ name, PySem.W.lookIn name od = some (mA name) :=
  let ⟨od, ho, hl⟩ := lookIn_ns I.ns
  ⟨od, ⟨I.obj, rfl, rfl, ho⟩, hl⟩

section
variable {prog : Program} {w : World} {A : Around} {E : Value → Shared → Prop} {s : Shared} {K : PySem.W.Frag} {x dx C f : Addr} {mA : Str → Option Value} {name : Str} {v : Value}





end

/-! ### the attributes as a list of pairs -/
def putF (f : Str) (v : V) : List (Str × V) → List (Str × V)
  | [] => [(f, v)]
  | (g, x) :: r => if g = f then (g, v) :: r else (g, x) :: putF f v r


section
variable {P : Program} {w : World} {H H' : Hp} {h h' : Heap} {a C dx : Addr} {fs fs' : List (Str × V)}
theorem ins_get (hok : HOk P w H h) (e : H a = some (.ins C dx fs)) : ∃ mA, ObjM h a dx C mA ∧ (∀ f, RelO (fs.lookup f) (mA f)) ∧ PySem.Within mA (fs.map (·.1)) ∧ fs.length ≤ 1000 ∧ H dx = some (.own a) := by
  obtain ⟨d, z, ne, ob, mA, n, r, q⟩ := (show ObjOk P w H h a (.ins C dx fs) from hok a _ e)
  exact ⟨mA, ⟨ob, n, ne⟩, r, q, z, d⟩
end

/-! ### what of the text a class must have -/
structure Cls (K : PySem.W.Frag) (C : Addr) : Prop where
  pg : PySem.W.plainGet K C Str.empty = true
  hd : PySem.W.hasDictIn K C = true
  po : PySem.W.plainOver K C = true
  sa : PySem.W.findIn K (.ref C) "__setattr__" = some (some (.builtin "object.__setattr__"))
theorem Cls.get {K : PySem.W.Frag} {C : Addr} (c : Cls K C) (f : Str) : PySem.W.plainGet K C f = true := c.pg
/-- no class of it has the name -/
def NoAttr (K : PySem.W.Frag) (C : Addr) (f : Str) : Prop := PySem.W.findIn K (.ref C) f = some none
/-- a constant of the class -/
structure Con (K : PySem.W.Frag) (C : Addr) (f : Str) (v : V) (u : Value) : Prop where
  at_ : PySem.W.findIn K (.ref C) f = some (some u)
  rel : RelV v u
  get : PySem.W.specialIn K u "__get__" = some none
  cp : PySem.W.copiedNames.contains f = false
/-- a method: a plain def of the class or of one above it -/
structure Meth (K : PySem.W.Frag) (C : Addr) (m : Str) (f : Addr) : Prop where
  at_ : PySem.W.findIn K (.ref C) m = some (some (.ref f))
  fn : PySem.W.isFn K (.ref f) = true
  kp : PySem.W.keepIn K (.ref f) = true

section
variable {X : Cx} {pins : List (Addr × Obj)} {σ : St} {H : Hp} {s : Shared} {a C dx : Addr} {fs : List (Str × V)} {f : Str} {v : V} {A : Around} {E : Value → Shared → Prop}






end

/-! ### readings and rules -/
/-- e.f, an attribute of the instance -/
def tFld (K : PySem.W.Frag) (ta : TE) (f : Str) : TE := fun σ H Q => ta σ H fun x H1 => ∃ a C dx fs v, x = .ref a ∧ H1 a = some (.ins C dx fs) ∧ Cls K C ∧ NoAttr K C f ∧ fs.lookup f = some v ∧ Q v H1
/-- e.f, a constant of the class -/
def tCon (K : PySem.W.Frag) (ta : TE) (f : Str) : TE := fun σ H Q => ta σ H fun x H1 => ∃ a C dx fs v u, x = .ref a ∧ H1 a = some (.ins C dx fs) ∧ Cls K C ∧ Con K C f v u ∧ fs.lookup f = none ∧ Q v H1
/-- e.f = value -/
def sFld (K : PySem.W.Frag) (ta tv : TE) (f : Str) : TS := fun D σ H => tv σ H fun y H1 => ta σ H1 fun x H2 => ∃ a C dx fs, x = .ref a ∧ H2 a = some (.ins C dx fs) ∧ Cls K C ∧ NoAttr K C f ∧ fs.length < 1000 ∧
  D.nx σ (upd H2 a (.ins C dx (putF f y fs)))
/-- an augmented operator on two values -/
def InOp (X : Cx) (op : Operator) (rd : V → V → Hp → VK → Prop) : Prop :=
  ∀ (pins : List (Addr × Obj)) (s : Shared) (σ : St) (H : Hp) (x y : V) (u v : Value) (Q : VK), Inv X pins σ H s → RelV x u → RelV y v → rd x y H Q → wpAny (model X.prog X.w) X.A (inplaceOp op u v) (EP X pins σ Q) X.xe s
/-- e.f op= value -/
def sFldAug (K : PySem.W.Frag) (ta tv : TE) (rd : V → V → Hp → VK → Prop) (f : Str) : TS := fun D σ H => ta σ H fun x H1 => ∃ a C dx fs v, x = .ref a ∧ H1 a = some (.ins C dx fs) ∧ Cls K C ∧ NoAttr K C f ∧ fs.lookup f = some v ∧
  tv σ H1 fun y H2 => rd v y H2 fun z H3 => ∃ dx' fs', H3 a = some (.ins C dx' fs') ∧ fs'.length < 1000 ∧ D.nx σ (upd H3 a (.ins C dx' (putF f z fs')))

section
variable {X : Cx} {o e value : Expr} {f : Str} {pos pos' tpos : Pos} {ta tv : TE}
def rAdd : V → V → Hp → VK → Prop := fun x y H Q => ∃ i j, x = .int i ∧ y = .int j ∧ Q (.int (i + j)) H
def rSub : V → V → Hp → VK → Prop := fun x y H Q => ∃ i j, x = .int i ∧ y = .int j ∧ Q (.int (i - j)) H

end

/-! ### isinstance -/
section
variable {X : Cx} {pins : List (Addr × Obj)} {σ : St} {H : Hp} {s : Shared} {A : Around} {E : Value → Shared → Prop} {Q : Value → Shared → Prop} {c : Value} {b : Bool}
/-- the type of a value, as the fragment's deciders take it; for an instance its class -/
inductive TyOf (K : PySem.W.Frag) (H : Hp) : V → Value → Prop where
  | non : TyOf K H .non (.type "NoneType")
  | bl (x : Bool) : TyOf K H (.bl x) (.type "bool")
  | int (i : Int) : TyOf K H (.int i) (.type "int")
  | str (x : Str) : TyOf K H (.str x) (.type "str")
  | flt (x : UInt64) : TyOf K H (.flt x) (.type "float")
  | lst {a : Addr} {xs : List V} (e : H a = some (.lst xs)) : TyOf K H (.ref a) (.type "list")
  | frz {a : Addr} {o : Obj} {xs : List V} (e : H a = some (.frz o (.lst xs))) : TyOf K H (.ref a) (.type "list")
  | tup {a : Addr} {xs : List V} (e : H a = some (.tup xs)) : TyOf K H (.ref a) (.type "tuple")
  | dK {a : Addr} {kvs : List (Key × V)} (e : H a = some (.dK kvs)) : TyOf K H (.ref a) (.type "dict")
  | dT {a : Addr} {kvs : List (List Key × V)} (e : H a = some (.dT kvs)) : TyOf K H (.ref a) (.type "dict")
  | ins {a C dx : Addr} {fs : List (Str × V)} (e : H a = some (.ins C dx fs)) (cl : Cls K C) (ha : PySem.W.findIn K (.ref C) "__class__" = some (some (.builtin "object.__class__")))
      (hn : PySem.W.specialIn K (.builtin "object.__class__") "__get__" = some (some (.builtin "getset_descriptor.__get__"))) (htk : PySem.W.takesIn K (.builtin "object.__class__") = some true)
      (hm : PySem.W.mroIn K C (.type "object") = some true) : TyOf K H (.ref a) (.ref C)
/-- isinstance(x, c) for one class c, a built-in or an own one: kitOne's answer -/
theorem isinst_ok {x : V} {u t : Value} (I : Inv X pins σ H s) (rx : RelV x u) (ty : TyOf X.K H x t) (e : PySem.W.kitOne X.K t c = some b) (h : ∀ tk, Q (.bool b) { s with toks := tk }) :
    wpAny (model X.prog X.w) A (call (.builtin "isinstance") [u, c]) Q E s := by
  cases ty with
  | non => cases (show u = Value.none from rx); exact PySem.W.kia_one PySem.W.kitx_none I.kIn True.intro e (fun z => nomatch z) h
  | bl y => cases (show u = Value.bool y from rx); exact PySem.W.kia_one PySem.W.kitx_bool I.kIn True.intro e (fun z => nomatch z) h
  | int i => obtain ⟨t, q⟩ := (show ∃ t, u = Value.int i t from rx); cases q; exact PySem.W.kia_one PySem.W.kitx_int I.kIn True.intro e (fun z => nomatch z) h
  | str y => obtain ⟨t, q⟩ := (show ∃ t, u = Value.str y t from rx); cases q; exact PySem.W.kia_one PySem.W.kitx_str I.kIn True.intro e (fun z => nomatch z) h
  | flt y => obtain ⟨t, q⟩ := (show ∃ t, u = Value.float y t from rx); cases q; exact PySem.W.kia_one PySem.W.kitx_float I.kIn True.intro e (fun z => nomatch z) h
  | @lst a xs ea =>
    cases (show u = Value.ref a from rx)
    obtain ⟨_, _, n, _, h1⟩ := (show ObjOk X.prog X.w H s.heap a (.lst xs) from I.hok a _ ea)
    exact PySem.W.kia_one PySem.W.kitx_list I.kIn ⟨_, h1, rfl⟩ e (fun z => nomatch z) h
  | @frz a ob xs ea =>
    cases (show u = Value.ref a from rx)
    obtain ⟨_, _, _, n, _, h1⟩ := (show ObjOk X.prog X.w H s.heap a (.frz ob (.lst xs)) from I.hok a _ ea)
    exact PySem.W.kia_one PySem.W.kitx_list I.kIn ⟨_, h1, rfl⟩ e (fun z => nomatch z) h
  | @tup a xs ea =>
    cases (show u = Value.ref a from rx)
    obtain ⟨_, _, _, p⟩ := (show ObjOk X.prog X.w H s.heap a (.tup xs) from I.hok a _ ea)
    obtain ⟨o, h1, h2, _⟩ := p
    exact PySem.W.kia_one PySem.W.kitx_tuple I.kIn ⟨o, h1, h2⟩ e (fun z => nomatch z) h
  | @dK a kvs ea =>
    cases (show u = Value.ref a from rx)
    obtain ⟨_, _, vs, _, p⟩ := (show ObjOk X.prog X.w H s.heap a (.dK kvs) from I.hok a _ ea)
    obtain ⟨o, es, ep, h1, h2, _⟩ := p
    exact PySem.W.kia_one PySem.W.kitx_dict I.kIn ⟨o, h1, h2.1⟩ e (fun z => nomatch z) h
  | @dT a kvs ea =>
    cases (show u = Value.ref a from rx)
    obtain ⟨_, _, xs, _, o, es, ep, h1, h2, _⟩ := (show ObjOk X.prog X.w H s.heap a (.dT kvs) from I.hok a _ ea)
    exact PySem.W.kia_one PySem.W.kitx_dict I.kIn ⟨o, h1, h2.1⟩ e (fun z => nomatch z) h
  | @ins a C dx fs ea cl ha hn htk hm =>
    cases (show u = Value.ref a from rx)
    obtain ⟨mA, O, _⟩ := ins_get I.hok ea
    obtain ⟨od, J, _⟩ := O.look
    exact PySem.W.kia_one (PySem.W.kitx_own (cl.get _) cl.hd ha hn htk hm) I.kIn J e (fun z => nomatch z) h
end
end L2

namespace L2
open PySem PySem.Spec PyProof.Rows

/-! ### room -/
structure Room (k : Nat) (A : Around) : Prop where
  hd : A.handled = none
  dp : A.depth + 3 * k + 5 < recursionLimit
  un : A.units + 16 * k + 200 < cLine
theorem Room.mono {j k : Nat} {A : Around} (r : Room k A) (h : j ≤ k) : Room j A := ⟨r.hd, by have := r.dp; omega, by have := r.un; omega⟩
theorem Room.deeper {k : Nat} {A : Around} (r : Room (k + 1) A) (env : Env) : Room k (A.deeper env) :=
  ⟨r.hd, by have := r.dp; show A.depth + 1 + 3 * k + 5 < _; omega, by have := r.un; show A.units + 3 + 16 * k + 200 < _; omega⟩
theorem Room.depth {k : Nat} {A : Around} (r : Room k A) : A.depth < recursionLimit := by have := r.dp; omega

/-! ### argument lists and displays -/
def tNil : TA := fun _ H Q => Q [] H
def tCons (ta : TE) (tr : TA) : TA := fun σ H Q => ta σ H fun x H1 => tr σ H1 fun xs H2 => Q (x :: xs) H2
section
variable {X : Cx} {e : Expr} {es : List Expr} {te : TE} {t : TA} {pos : Pos}
theorem pa_nil : PA X [] tNil := fun _ _ _ _ H Q I h => Calls.spliced_nil ⟨[], H, I, .nil, h⟩
theorem pa_cons (ha : PE X e te) (hr : PA X es t) (hs : starEach (e :: es) X.env = (false, eval e X.env) :: starEach es X.env := by rfl) : PA X (e :: es) (tCons te t) := by
  intro pos pins s σ H Q I h
  rw [hs]
  show wpAny _ _ (spliced ((false, eval e X.env) :: backTo pos (starEach es X.env))) _ _ s
  refine Calls.spliced_cons (thn (ha pins s σ H _ I h) fun u s1 ⟨x, H1, I1, r1, q1⟩ => ?_)
  exact thn (hr pos pins s1 σ H1 _ I1 q1) fun us s2 ⟨xs, H2, I2, r2, q2⟩ => ⟨x :: xs, H2, I2, .cons r1 r2, q2⟩

/-- a tuple, a list of written items -/
def tTup (t : TA) : TE := fun σ H Q => t σ H fun xs H1 => xs.length ≤ sizeLine ∧ ∀ p, H1 p = none → Q (.ref p) (upd H1 p (.tup xs))
def tLst (t : TA) : TE := fun σ H Q => t σ H fun xs H1 => xs.length ≤ sizeLine ∧ ∀ p, H1 p = none → Q (.ref p) (upd H1 p (.lst xs))
theorem pe_tup {x1} (h : PA X es t) : PE X (.Tuple es x1 pos) (tTup t) := by
  intro pins s σ H Q I hq
  refine wpAny_Tuple_spliced (thn (h pos pins s σ H _ I hq) fun us s1 ⟨xs, H1, I1, r, z, q⟩ => ⟨by rw [← r.length]; exact z, ?_⟩)
  have hf : H1 s1.heap.objs.size = none := I1.hok.fresh (Nat.le_refl _)
  refine ⟨.ref s1.heap.objs.size, upd H1 s1.heap.objs.size (.tup xs), I1.laid (t' := s1.toks) (fun b u e => Heap.get?_push_of_some _ e) (Nat.le_refl _) ?_, rfl, q _ hf⟩
  exact ⟨z, us, r, ⟨_, Heap.get?_push_size _ rfl, rfl, _, rfl⟩⟩
theorem pe_lst (h : PA X es t) : PE X (.List es pos) (tLst t) := by
  intro pins s σ H Q I hq
  refine wpAny_List_spliced (thn (h pos pins s σ H _ I hq) fun us s1 ⟨xs, H1, I1, r, z, q⟩ => ⟨by rw [← r.length]; exact z, ?_⟩)
  have hf : H1 s1.heap.objs.size = none := I1.hok.fresh (Nat.le_refl _)
  refine ⟨.ref s1.heap.objs.size, upd H1 s1.heap.objs.size (.lst xs), I1.laid (t' := s1.toks) (fun b u e => Heap.get?_push_of_some _ e) (Nat.le_refl _) ?_, rfl, q _ hf⟩
  exact ⟨z, us, 0, r, Heap.get?_push_size _ rfl⟩
end

/-! ### what a def promises -/
/-- a def's promise: the bound arguments in the parameters' order, the heap, the wanted end, the wanted exception -/
abbrev Sp := List V → Hp → VK → XK → Prop
/-- how an exception lies behind a call (file 08 gives it): the callers' frames, abstract heap and state ahead of the call, the wish, the exception, the state -/
abbrev CXT := List Env → Hp → Shared → XK → Value → Shared → Prop

/-- the state at a call -/
structure Env0 (P : Program) (w : World) (K : PySem.W.Frag) (mg : Str → Option Value) (base : Heap) (A : Around) (outer : List Env) (s : Shared) (H : Hp) : Prop where
  frames : A.frames = some outer
  mod : Mod K mg base
  bs : ∀ b o, base.get? b = some o → s.heap.get? b = some o ∧ H b = none
  bsz : base.objs.size ≤ s.heap.objs.size
  funs : s.heap.FunFrames base outer
  frf : ∀ b ∈ frs outer, H b = none
  hok : HOk P w H s.heap
  bare : AllBare s.gens
/-- a call's end -/
def CE (outer : List Env) (P : Program) (w : World) (H : Hp) (s : Shared) (Q : VK) (u : Value) (s' : Shared) : Prop :=
  ∃ v H', s'.os = s.os ∧ AllBare s'.gens ∧ Un (frs outer) [] H H' s.heap s'.heap ∧ HOk P w H' s'.heap ∧ RelV v u ∧ Q v H'
def CR (CX : CXT) (outer : List Env) (P : Program) (w : World) (H : Hp) (s : Shared) (Q : VK) (E : XK) (r : Result) (s' : Shared) : Prop :=
  match r with
  | .ok (.ret u) => CE outer P w H s Q u s'
  | .ok _ => False
  | .error e => CX outer H s E e s'
structure FnOk (P : Program) (w : World) (K : PySem.W.Frag) (mg : Str → Option Value) (base : Heap) (CX : CXT) (k : Nat) (f : Addr) (fd : FuncData) (ps : List Str) (sp : Sp) : Prop where
  len : ∀ vs H Q E, sp vs H Q E → vs.length = ps.length
  run : ∀ (A : Around) (outer : List Env) (s : Shared) (H : Hp) (args : Args) (us : List Value) (vs : List V) (Q : VK) (E : XK), Room k A → Env0 P w K mg base A outer s H → BindsTo s fd args (ps.zip us) → Vals vs us → sp vs H Q E →
    codeAny (model P w) A (.call (.ref f) args) (CR CX outer P w H s Q E) s


section
variable {X : Cx} {pins : List (Addr × Obj)} {σ : St} {H : Hp} {s s' : Shared}
/-- from a body: what a callee wants -/
theorem Inv.env0 (I : Inv X pins σ H s) : Env0 X.prog X.w X.K X.mg X.base X.A X.stack s H :=
  ⟨I.ok.frames, I.ok.mod, I.bs, Nat.le_trans I.ok.bsz I.sz, I.stack, I.stkFree, I.hok, I.bare⟩
/-- behind a call -/
theorem Inv.after {Q : VK} {u : Value} (I : Inv X pins σ H s) (h : CE X.stack X.prog X.w H s Q u s') : EP X pins σ Q u s' := by
  obtain ⟨v, H', os, bare, un, hok, r, q⟩ := h
  obtain ⟨hh, g, d, t, os'⟩ := s'
  obtain rfl : os' = s.os := os
  exact ⟨v, H', I.call (h' := hh) (g' := g) (d' := d) (t' := t) (ch := []) un hok bare (fun b z => absurd z (by simp)), r, q⟩
end

/-! ### calls -/
/-- f(..): the written arguments, then the defaults dvs; E: what is wanted of an exception -/
def tCall (sp : Sp) (dvs : List V) (E : XK) (t : TA) : TE := fun σ H Q => t σ H fun vs H1 => sp (vs ++ dvs) H1 Q E
/-- o.m(..) of an instance of the class at C -/
def tMeth (C : Addr) (m : Str) (sp : Sp) (dvs : List V) (E : XK) (ta : TE) (t : TA) : TE := fun σ H Q => ta σ H fun x H1 => ∃ a dx fs, x = .ref a ∧ H1 a = some (.ins C dx fs) ∧ fs.lookup m = none ∧
  t σ H1 fun vs H2 => sp (x :: (vs ++ dvs)) H2 Q E
/-- C(..): a new instance and its dict, then __init__ -/
def tMake (C : Addr) (sp : Sp) (dvs : List V) (E : XK) (t : TA) : TE := fun σ H Q => t σ H fun vs H1 => ∀ x dx, H1 x = none → H1 dx = none → dx ≠ x →
  sp (.ref x :: (vs ++ dvs)) (upd (upd H1 dx (.own x)) x (.ins C dx [])) (fun v H2 => v = .non ∧ Q (.ref x) H2) E

/-- how the parameters are bound: us the positional arguments, kw the keywords' values by name, ds the defaults that fill up -/
def Binds (K : PySem.W.Frag) (fd : FuncData) (ps : List Str) (ds : List Value) : Prop :=
  ∀ (s : Shared) (us : List Value), K.In s.heap → (us ++ ds).length = ps.length → BindsTo s fd ⟨us, []⟩ (ps.zip (us ++ ds))
/-- every parameter is given -/
theorem Binds.all {K : PySem.W.Frag} {fd : FuncData} {ps : List Str} (h : ∀ us : List Value, us.length = ps.length → bindArgs fd ⟨us, []⟩ = pure (ps.zip us)) : Binds K fd ps [] := fun s us _ hl => by
  rw [List.append_nil] at hl ⊢
  exact .of_eq (h us hl)

/-- an exception of a callee reaches what this body wants of exceptions -/
def Passes (CX : CXT) (X : Cx) (E : XK) : Prop := ∀ (pins : List (Addr × Obj)) (σ : St) (H : Hp) (s : Shared) (e : Value) (s' : Shared), Inv X pins σ H s → CX X.stack H s E e s' → X.xe e s'

section
variable {X : Cx} {CX : CXT} {k : Nat} {f C : Addr} {fd : FuncData} {ps : List Str} {sp : Sp} {dvs : List V} {ds : List Value} {E : XK} {x m : Str} {p pos apos : Pos} {e o : Expr} {es : List Expr} {ta : TE} {t : TA}

/-- the callee runs -/
theorem run_fn {pins : List (Addr × Obj)} {σ : St} {H : Hp} {s : Shared} {Q : VK} {us : List Value} {vs : List V} (F : FnOk X.prog X.w X.K X.mg X.base CX k f fd ps sp) (hr : Room k X.A) (hb : Binds X.K fd ps ds) (hd : Vals dvs ds) (hx : Passes CX X E)
    (I : Inv X pins σ H s) (r : Vals vs us) (h : sp (vs ++ dvs) H Q E) : wpAny (model X.prog X.w) X.A (call (.ref f) us) (EP X pins σ Q) X.xe s := by
  have r2 : Vals (vs ++ dvs) (us ++ ds) := r.append hd
  have hl : (us ++ ds).length = ps.length := by rw [← r2.length]; exact F.len _ _ _ _ h
  refine wpAny_call (codeAny_mono (F.run X.A X.stack s H ⟨us, []⟩ (us ++ ds) (vs ++ dvs) Q E hr I.env0 (hb s us I.kIn hl) r2 h) fun r s' hq => ?_)
  cases r with
  | error e => exact hx pins σ H s e s' I hq
  | ok fl =>
    cases fl with
    | ret u => exact I.after hq
    | next => exact False.elim hq
    | brk => exact False.elim hq
    | cont => exact False.elim hq

theorem pe_call (F : FnOk X.prog X.w X.K X.mg X.base CX k f fd ps sp) (hr : Room k X.A) (hg : Gl X x) (hm : X.mg x = some (.ref f)) (hk : PySem.W.keepIn X.K (.ref f) = true) (hb : Binds X.K fd ps ds) (hd : Vals dvs ds) (hx : Passes CX X E)
    (ha : PA X (e :: es) t) (hdb : (x == ("__debug__" : Str)) = false := by decide) (he : starEach (e :: es) X.env = (false, eval e X.env) :: starEach es X.env := by rfl) (hpl : (backTo pos (starEach es X.env)).any (·.1) = false := by rfl) :
    PE X (.Call (.Name x p) (e :: es) [] pos) (tCall sp dvs E t) := by
  intro pins s σ H Q I h
  refine wpAny_Call_Name_kw (ld_glob I hg hm ?_ hdb)
  refine PySem.W.callWith_K (h₀ := X.base) I.ok.mod.kin hk (thn (ha pos pins s σ H _ I h) fun us s1 ⟨vs, H1, I1, r, q⟩ => ⟨I1.kIn, ?_⟩) he hpl
  exact run_fn F hr hb hd hx I1 r q


/-- what a class must have to be made -/
structure Mk (K : PySem.W.Frag) (C f : Addr) : Prop where
  makes : PySem.W.makesIn K C = true
  init : PySem.W.findIn K (.ref C) "__init__" = some (some (.ref f))
  fn : PySem.W.isFn K (.ref f) = true
  kp : PySem.W.keepIn K (.ref C) = true

end

/-! ### keywords -/
/-- the values of the keywords, from the left -/
def PK (X : Cx) (kws : List Keyword) (t : TA) : Prop :=
  ∀ (pos : Pos) (pins : List (Addr × Obj)) (s : Shared) (σ : St) (H : Hp) (Q : List V → Hp → Prop), Inv X pins σ H s → t σ H Q → wpAny (model X.prog X.w) X.A (evalAll ((backToKw pos (keywordEach kws X.env)).map (·.2))) (AP X pins σ Q) X.xe s
section
variable {X : Cx} {CX : CXT} {k : Nat} {f C : Addr} {fd : FuncData} {ps ks : List Str} {sp : Sp} {E : XK} {x m : Str} {p pos apos kpos : Pos} {e o : Expr} {es : List Expr} {kws : List Keyword} {te ta : TE} {t tk : TA} {nm : Option Str}

/-- how a call with keywords binds: g puts the positional values us and the keywords' values ws (names ks) in the parameters' order, defaults among them -/
structure KBinds (K : PySem.W.Frag) (fd : FuncData) (ps ks : List Str) (g : List Value → List Value → List Value) (gV : List V → List V → List V) : Prop where
  to : ∀ (s : Shared) (us ws : List Value), K.In s.heap → (g us ws).length = ps.length → BindsTo s fd ⟨us, ks.zip ws⟩ (ps.zip (g us ws))
  rel : ∀ {vs : List V} {us : List Value} {zs : List V} {ws : List Value}, Vals vs us → Vals zs ws → Vals (gV vs zs) (g us ws)
def tCallK (sp : Sp) (gV : List V → List V → List V) (E : XK) (t tk : TA) : TE := fun σ H Q => t σ H fun vs H1 => tk σ H1 fun zs H2 => sp (gV vs zs) H2 Q E
variable {g : List Value → List Value → List Value} {gV : List V → List V → List V}
end

/-! ### a def's body keeps its promise -/
/-- names: the parameters first -/
structure FnScope (N P : List Str) (sc : Scope) : Prop where
  kind : sc.kind = .function
  co : sc.isCoroutine = false
  gen : sc.isGenerator = false
  nd : N.Nodup
  pre : N.take P.length = P
  par : ∀ x ∈ P, sc.names.lookup x = some .local ∨ sc.names.lookup x = some .cell
  nofree : ∀ y ∈ sc.names, y.2 ≠ .free

theorem bindL_out {kindOf : Str → Option NameKind} {x : Str} : ∀ {binds : List (Str × Value)} {m : Str → Option Value}, (∀ v, (x, v) ∉ binds) → bindL kindOf binds m x = m x
  | [], _, _ => rfl
  | (n, v) :: r, m, h => by
    unfold bindL
    rw [bindL_out fun w hw => h w (List.mem_cons_of_mem _ hw)]
    split
    · have : x ≠ n := by rintro rfl; exact h v List.mem_cons_self
      simp [this]
    · rfl
theorem bindC_out {kindOf : Str → Option NameKind} {x : Str} : ∀ {binds : List (Str × Value)} {m : Str → Option Value}, (∀ v, (x, v) ∉ binds) → bindC kindOf binds m x = m x
  | [], _, _ => rfl
  | (n, v) :: r, m, h => by
    unfold bindC
    rw [bindC_out fun w hw => h w (List.mem_cons_of_mem _ hw)]
    split
    · rfl
    · have : x ≠ n := by rintro rfl; exact h v List.mem_cons_self
      simp [this]
theorem bindL_get {kindOf : Str → Option NameKind} {x : Str} {v : Value} : ∀ {P : List Str} {vs : List Value} {i : Nat} {m : Str → Option Value}, P.Nodup → P[i]? = some x → vs[i]? = some v → kindOf x = some .local →
    bindL kindOf (P.zip vs) m x = some v
  | [], _, _, _, _, h, _, _ => by simp at h
  | _ :: _, [], _, _, _, _, h, _ => by simp at h
  | p :: P, w :: vs, 0, m, nd, h1, h2, hk => by
    simp at h1 h2; subst h1; subst h2
    show bindL kindOf ((p, w) :: P.zip vs) m p = _
    unfold bindL
    rw [bindL_out fun v hv => (List.nodup_cons.mp nd).1 (List.of_mem_zip hv).1, if_pos hk]
    simp
  | p :: P, w :: vs, i + 1, m, nd, h1, h2, hk => by
    show bindL kindOf ((p, w) :: P.zip vs) m x = _
    unfold bindL
    exact bindL_get (i := i) (List.nodup_cons.mp nd).2 (by simpa using h1) (by simpa using h2) hk
theorem bindC_get {kindOf : Str → Option NameKind} {x : Str} {v : Value} : ∀ {P : List Str} {vs : List Value} {i : Nat} {m : Str → Option Value}, P.Nodup → P[i]? = some x → vs[i]? = some v → kindOf x ≠ some .local →
    bindC kindOf (P.zip vs) m x = some v
  | [], _, _, _, _, h, _, _ => by simp at h
  | _ :: _, [], _, _, _, _, h, _ => by simp at h
  | p :: P, w :: vs, 0, m, nd, h1, h2, hk => by
    simp at h1 h2; subst h1; subst h2
    show bindC kindOf ((p, w) :: P.zip vs) m p = _
    unfold bindC
    rw [bindC_out fun v hv => (List.nodup_cons.mp nd).1 (List.of_mem_zip hv).1, if_neg hk]
    simp
  | p :: P, w :: vs, i + 1, m, nd, h1, h2, hk => by
    show bindC kindOf ((p, w) :: P.zip vs) m x = _
    unfold bindC
    exact bindC_get (i := i) (List.nodup_cons.mp nd).2 (by simpa using h1) (by simpa using h2) hk

/-- the names' values at the entry -/
def start (N : List Str) (vs : List V) : St := vs.map some ++ List.replicate (N.length - vs.length) none

/-- the context of a def's body, at its entry; an exception leaves the frame, then lies as CX says -/
def cxOf (CX : CXT) (P : Program) (w : World) (K : PySem.W.Frag) (mg : Str → Option Value) (base : Heap) (N : List Str) (qual : Str) (scope : Scope) (f : Addr) (cd : Value) (A : Around) (outer : List Env) (s : Shared) (H : Hp) (E : XK) : Cx where
  prog := P
  w := w
  K := K
  mg := mg
  base := base
  A := A.deeper (envOfC qual scope s.heap.objs.size f cd)
  N := N
  s₀ := s
  H₀ := H
  env := envOfC qual scope s.heap.objs.size f cd
  outer := outer
  stack := envOfC qual scope s.heap.objs.size f cd :: outer
  ex := []
  calm := true
  fn := fun _ => true
  pn := []
  xe := fun e s' => wpAny (model P w) (A.deeper (envOfC qual scope s.heap.objs.size f cd)) (leaving (envOfC qual scope s.heap.objs.size f cd) e) (fun _ s'' => CX outer H s E e s'') (fun e' s'' => CX outer H s E e' s'') s'

theorem cell_has {sc : Scope} {n : Nat} {x : Str} (h : sc.names.lookup x = some .cell) : ∃ c, (cellsFrom n sc.names []).lookup x = some c := by
  have q := PySem.W.cellsFrom_some sc.names n [] (.inl h)
  exact Option.isSome_iff_exists.mp q

theorem inv_start {CX : CXT} {P : Program} {w : World} {K : PySem.W.Frag} {mg : Str → Option Value} {base : Heap} {N ps : List Str} {qual : Str} {scope : Scope} {f : Addr} {cd : Value} {A : Around} {outer : List Env} {s s1 : Shared} {H : Hp} {E : XK} {us : List Value} {vs : List V}
    (S : FnScope N ps scope) (hd : A.handled = none) (e0 : Env0 P w K mg base A outer s H) (hl : vs.length = ps.length) (r : Vals vs us)
    (x : InCallC s s.heap.objs.size (bindL (envOfC qual scope s.heap.objs.size f cd).kindOf (ps.zip us) fun _ => none) (cellsFrom (s.heap.objs.size + 1) scope.names []) (bindC (envOfC qual scope s.heap.objs.size f cd).kindOf (ps.zip us) fun _ => none) s1) :
    Inv (cxOf CX P w K mg base N qual scope f cd A outer s H E) [] (start N vs) H s1 := by
  have hpl : ps.length ≤ N.length := by have := congrArg List.length S.pre; rw [List.length_take] at this; omega
  obtain ⟨h1, tk, rfl, hk⟩ := x.done
  have noA : ∀ b : Addr, b ∉ (cxOf CX P w K mg base N qual scope f cd A outer s H E).ex := fun b z => absurd (show b ∈ ([] : List Addr) from z) (by simp)
  refine ⟨⟨e0.mod, S.kind, rfl, rfl, Nat.le_refl _, fun y z c h1 h2 => ?_, fun y hy => ?_, fun y c _ h => ?_, fun _ => hd, Around.frames_deeper e0.frames, .inr ⟨rfl, rfl⟩, fun b z => absurd z (noA b), e0.bs, e0.bsz, fun b _ _ => noA b, fun b z => absurd z (noA b), e0.funs, e0.frf⟩,
    rfl, e0.bare, Un.kept hk, ⟨_, x.toInCall.ns, fun i y v h1 h2 h3 => ?_⟩, fun y c h => ⟨_, x.cell y c h⟩, e0.hok.fresh (Nat.le_refl _), fun y c h => ?_, fun p hp => absurd (show p ∈ ([] : List (Addr × Obj)) from hp) (by simp), e0.hok.kept hk, ?_⟩
  · exact name_of_addr x.apart (PySem.mem_of_lookup h1) (PySem.mem_of_lookup h2)
  · have hy : scope.names.lookup y = some .cell ∨ scope.names.lookup y = some .free := hy
    rcases hy with hy | hy
    · exact cell_has hy
    · exact absurd rfl (S.nofree _ (PySem.mem_of_lookup hy))
  · exact Nat.le_of_lt (x.above y c (PySem.mem_of_lookup h))
  · have hi : i < vs.length := by
      unfold start at h2
      by_cases hi : i < vs.length
      · exact hi
      · rw [List.getElem?_append_right (by simpa using hi)] at h2
        rw [List.getElem?_replicate] at h2
        split at h2 <;> cases h2
    have ha : vs[i]? = some v := by
      unfold start at h2
      rw [List.getElem?_append_left (by simpa using hi), List.getElem?_map] at h2
      cases e : vs[i]? with
      | none => rw [e] at h2; cases h2
      | some a => rw [e] at h2; cases h2; rfl
    obtain ⟨u, hu, rv⟩ := r.get ha
    have hp : ps[i]? = some y := by
      rw [← S.pre, List.getElem?_take_of_lt (by omega)]; exact h1
    have ndP : ps.Nodup := by rw [← S.pre]; exact S.nd.sublist (List.take_sublist _ _)
    refine ⟨u, rv, ?_⟩
    rcases S.par y (List.mem_of_getElem? hp) with k | k
    · exact .inl ⟨k, bindL_get ndP hp hu k⟩
    · obtain ⟨c, e⟩ := cell_has (n := s.heap.objs.size + 1) k
      refine .inr ⟨.inl k, c, e, ?_⟩
      have q := x.cell y c e
      rw [bindC_get ndP hp hu (by show scope.names.lookup y ≠ _; rw [k]; decide)] at q
      exact q
  · exact e0.hok.fresh (Nat.le_of_lt (x.above y c (PySem.mem_of_lookup h)))
  · unfold start
    show _ = N.length
    rw [List.length_append, List.length_map, List.length_replicate]
    omega

/-- THE RULE: a def (or a method) of the text, by its body. The body's reading t is chosen for each entry; it is run at the parameters' values -/
theorem fn_of {CX : CXT} {P : Program} {w : World} {K : PySem.W.Frag} {mg : Str → Option Value} {base : Heap} {k : Nat} {f : Addr} {name qual : Str} {params : Arguments} {body : List Stmt} {scope : Scope} {dV kV doc pm cdv ct oc : Value} {an od : Option Addr}
    {osl : Array (Option Value)} {N ps : List Str} {sp : Sp} (lk : K.lookup f = some ⟨oc, od, .func (PySem.W.fnOf name qual params body scope dV kV doc pm an cdv ct), osl⟩) (hcd : PySem.W.codeIn K cdv qual = true) (S : FnScope N ps scope)
    (len : ∀ vs H Q E, sp vs H Q E → vs.length = ps.length)
    (hbody : ∀ (A : Around) (outer : List Env) (s : Shared) (H : Hp) (vs : List V) (Q : VK) (E : XK), Room k (A.deeper (envOfC qual scope s.heap.objs.size f cdv)) → sp vs H Q E →
      ∃ t, PSs (cxOf CX P w K mg base N qual scope f cdv A outer s H E) body t ∧ t { nx := fun _ H' => Q .non H', rt := Q } (start N vs) H) :
    FnOk P w K mg base CX (k + 1) f (PySem.W.fnOf name qual params body scope dV kV doc pm an cdv ct) ps sp := by
  refine ⟨len, fun A outer s H args us vs Q E hr e0 hb r hsp => ?_⟩
  have hl := len _ _ _ _ hsp
  have KX : K.In s.heap := e0.mod.kin.keeps fun b o e => (e0.bs b o e).1
  have lim : s.heap.NoLimit := e0.mod.nolimit.keeps fun b o e => (e0.bs b o e).1
  have hkind : ∀ y ∈ ps.zip us, scope.names.lookup y.1 = some .local ∨ (scope.names.lookup y.1 = some .cell ∧ ((cellsFrom (s.heap.objs.size + 1) scope.names []).lookup y.1).isSome = true) := fun ⟨n, v⟩ hy => by
    rcases S.par n (List.of_mem_zip hy).1 with q | q
    · exact .inl q
    · exact .inr ⟨q, PySem.W.cellsFrom_some _ _ _ (.inl q)⟩
  refine codeAny_call_function hr.depth (KX _ _ lk) rfl S.co S.gen rfl (PySem.W.codeRec_of KX hcd) (hb _ _ _ _ ?_)
  refine wpAny_newFunctionEnv_cells S.kind hkind fun env he s1 x => ?_
  subst he
  refine ⟨lim.keeps x.toInCall.keep, codeAny_func ?_⟩
  obtain ⟨t, ht, hq⟩ := hbody A outer s H vs Q E (hr.deeper _) hsp
  have I : Inv (cxOf CX P w K mg base N qual scope f cdv A outer s H E) [] (start N vs) H s1 := inv_start S hr.hd e0 hl r x
  refine wpAny_mono (ht [] s1 (start N vs) H _ I hq) (fun fl s' hs => ?_) fun e s' hs => hs
  have fin : ∀ {σ' : St} {H' : Hp} {v : V} {u : Value}, Inv (cxOf CX P w K mg base N qual scope f cdv A outer s H E) [] σ' H' s' → RelV v u → Q v H' → CE outer P w H s Q u s' :=
    fun {σ' H' v u} J rv q => ⟨v, H', J.os, J.bare, J.base, J.hok, rv, q⟩
  cases fl with
  | ret u =>
    obtain ⟨v, σ', H', J, rv, q⟩ := hs
    exact fin J rv q
  | next =>
    obtain ⟨σ', H', J, q⟩ := hs
    exact fin (v := V.non) (u := Value.none) J rfl q
  | brk =>
    obtain ⟨_, _, _, q⟩ := hs
    exact False.elim q
  | cont =>
    obtain ⟨_, _, _, q⟩ := hs
    exact False.elim q
end L2

namespace L2
open PySem PySem.Spec PyProof.Rows
section
variable {X : Cx} {x : Str} {p pos : Pos} {e : Expr} {es : List Expr} {t : TA} {id T : String} {r : List V → Hp → VK → Prop}

def tCB (r : List V → Hp → VK → Prop) (t : TA) : TE := fun σ H Q => t σ H fun vs H1 => r vs H1 Q
/-- f(e, ..), f a built-in function -/
theorem pe_callB (hc : CallR X (.builtin id) r) (hg : Gl X x) (hm : X.mg x = none) (hv : bootBuiltins x = some (.builtin id)) (ha : PA X (e :: es) t) (hn : x ≠ "__name__" := by decide) (hdb : (x == ("__debug__" : Str)) = false := by decide)
    (he : starEach (e :: es) X.env = (false, eval e X.env) :: starEach es X.env := by rfl) (hpl : (backTo pos (starEach es X.env)).any (·.1) = false := by rfl) : PE X (.Call (.Name x p) (e :: es) [] pos) (tCB r t) := by
  intro pins s σ H Q I h
  refine wpAny_Call_Name_kw (ld_blt I hg hm hv ?_ hn hdb)
  exact PyProof.Rows.callWith_builtin1 (thn (ha pos pins s σ H _ I h) fun us s1 ⟨vs, H1, I1, r1, q1⟩ => hc pins s1 σ H1 vs us Q I1 r1 q1) he hpl
/-- T(e, ..), T a built-in type -/
theorem pe_callTy (hc : CallR X (.type T) r) (hg : Gl X x) (hm : X.mg x = none) (hv : bootBuiltins x = some (.type T)) (ha : PA X (e :: es) t) (hn : x ≠ "__name__" := by decide) (hdb : (x == ("__debug__" : Str)) = false := by decide)
    (he : starEach (e :: es) X.env = (false, eval e X.env) :: starEach es X.env := by rfl) (hpl : (backTo pos (starEach es X.env)).any (·.1) = false := by rfl) : PE X (.Call (.Name x p) (e :: es) [] pos) (tCB r t) := by
  intro pins s σ H Q I h
  refine wpAny_Call_Name_kw (ld_blt I hg hm hv ?_ hn hdb)
  exact PyProof.Rows.callWith_type1 (thn (ha pos pins s σ H _ I h) fun us s1 ⟨vs, H1, I1, r1, q1⟩ => hc pins s1 σ H1 vs us Q I1 r1 q1) he hpl
end
end L2

namespace L2
open PySem PySem.Spec PyProof.Rows

/-! ### lists of pairs as tables -/
section
variable {κ : Type} [DecidableEq κ]
def valV (kvs : List (κ × V)) (k : κ) : Option V := (kvs.find? fun kv => decide (kv.1 = k)).map (·.2)
/-- in its place, or at the end -/
def putK (kvs : List (κ × V)) (k : κ) (v : V) : List (κ × V) :=
  if (kvs.any fun kv => decide (kv.1 = k)) = true then kvs.map (fun kv => if kv.1 = k then (kv.1, v) else kv) else kvs ++ [(k, v)]
def dropK (kvs : List (κ × V)) (k : κ) : List (κ × V) := kvs.filter fun kv => decide (kv.1 ≠ k)



end


/-! ### a tracked dict, its keys ints and texts or tuples of these -/

/-- raw entries of a dict with tuple keys -/
abbrev KT (H : Hp) : List (List Key × V) → List (List Key × Addr × Value) → Prop := Paired fun p q => p.1 = q.1 ∧ H q.2.1 = some (.tup (p.1.map kV)) ∧ RelV p.2 q.2.2

section
variable {P : Program} {w : World} {H : Hp} {h : Heap} {a : Addr}
end

/-- what the dict at a holds at the key y -/
def DGet (H : Hp) (a : Addr) (y : V) (r : Option V) : Prop :=
  (∃ kvs k, Rd H a (.dK kvs) ∧ y = kV k ∧ r = valV kvs k) ∨ ∃ kvs k b, Rd H a (.dT kvs) ∧ y = .ref b ∧ H b = some (.tup (k.map kV)) ∧ r = valV kvs k
/-- the heap behind a[y] = v -/
def DPut (H : Hp) (a : Addr) (y v : V) (H' : Hp) : Prop :=
  (∃ kvs k, H a = some (.dK kvs) ∧ y = kV k ∧ kvs.length < sizeLine ∧ H' = upd H a (.dK (putK kvs k v))) ∨
  ∃ kvs k b, H a = some (.dT kvs) ∧ y = .ref b ∧ H b = some (.tup (k.map kV)) ∧ kvs.length < sizeLine ∧ H' = upd H a (.dT (putK kvs k v))


section
variable {X : Cx} {pins : List (Addr × Obj)} {σ : St} {H : Hp} {s : Shared} {a : Addr} {y v : V} {u r : Value} {o : Option V} {A : Around} {E : Value → Shared → Prop}


end

section
variable {X : Cx} {pins : List (Addr × Obj)} {σ : St} {H : Hp} {s : Shared} {a : Addr} {kvs : List (Key × V)} {k : Key} {u : Value} {A : Around} {E : Value → Shared → Prop}
end


/-! ### readings and rules -/
/-- the element of a subscription, not a slice -/
def NoSl (i : Expr) : Prop := ∀ ov iv, subscripted i false ov iv = operate [ov, iv] (getItem ov iv)


/-- d[y] -/
def tDGet (td ty : TE) : TE := fun σ H Q => td σ H fun x H1 => ty σ H1 fun y H2 => ∃ a v, x = .ref a ∧ DGet H2 a y (some v) ∧ Q v H2
/-- y in d, y not in d -/
def tDIn (ty td : TE) : TE := fun σ H Q => ty σ H fun y H1 => td σ H1 fun x H2 => ∃ a o, x = .ref a ∧ DGet H2 a y o ∧ Q (.bl o.isSome) H2
def tDNotIn (ty td : TE) : TE := fun σ H Q => ty σ H fun y H1 => td σ H1 fun x H2 => ∃ a o, x = .ref a ∧ DGet H2 a y o ∧ Q (.bl (!o.isSome)) H2
/-- d[y] = v -/
def sDPut (td ty tv : TE) : TS := fun D σ H => tv σ H fun v H1 => td σ H1 fun x H2 => ty σ H2 fun y H3 => ∃ a H4, x = .ref a ∧ DPut H3 a y v H4 ∧ D.nx σ H4
/-- d[y] op= v -/
def sDAug (td ty tv : TE) (rd : V → V → Hp → VK → Prop) : TS := fun D σ H => td σ H fun x H1 => ty σ H1 fun y H2 => ∃ a v, x = .ref a ∧ DGet H2 a y (some v) ∧
  tv σ H2 fun y2 H3 => rd v y2 H3 fun z H4 => ∃ H5, DPut H4 a y z H5 ∧ D.nx σ H5
/-- del d[y] -/
def sDDel (td ty : TE) : TS := fun D σ H => td σ H fun x H1 => ty σ H1 fun y H2 => ∃ a kvs k, x = .ref a ∧ H2 a = some (.dK kvs) ∧ y = kV k ∧ (valV kvs k).isSome = true ∧ D.nx σ (upd H2 a (.dK (dropK kvs k)))

section
variable {X : Cx} {o i e value : Expr} {pos pos' tpos : Pos} {td ty tv : TE}
end


/-! ### displays -/
/-- {}, to be a dict of the kind that is wanted -/
def tDNewK : TE := fun _ H Q => ∀ p, H p = none → Q (.ref p) (upd H p (.dK []))
def tDNewT : TE := fun _ H Q => ∀ p, H p = none → Q (.ref p) (upd H p (.dT []))
section
variable {X : Cx} {pos : Pos}
end

/-- the pairs of a display, from the left -/
def tPairs : List (TE × TE) → St → Hp → (List (V × V) → Hp → Prop) → Prop
  | [], _, H, Q => Q [] H
  | (tk, tv) :: r, σ, H, Q => tk σ H fun x H1 => tv σ H1 fun y H2 => tPairs r σ H2 fun ps H3 => Q ((x, y) :: ps) H3
abbrev VV : List (V × V) → List (Value × Value) → Prop := Paired fun p q => RelV p.1 q.1 ∧ RelV p.2 q.2
def PPs (X : Cx) (pos : Pos) (keys : List (Option Expr)) (values : List Expr) (trs : List (TE × TE)) : Prop :=
  ∀ (pins : List (Addr × Obj)) (s : Shared) (σ : St) (H : Hp) (Q : List (V × V) → Hp → Prop), Inv X pins σ H s → tPairs trs σ H Q →
    wpAny (model X.prog X.w) X.A (evalPairs (pairTrees keys values X.env pos)) (fun vs s' => ∃ ps H', Inv X pins σ H' s' ∧ VV ps vs ∧ Q ps H') X.xe s

def mergeK (kvs more : List (Key × V)) : List (Key × V) := more.foldl (fun acc kv => putK acc kv.1 kv.2) kvs
/-- {k: v, ..} with keys ints and texts; the new dict stands empty while the pairs are made -/
def tDisp (trs : List (TE × TE)) : TE := fun σ H Q => ∀ p, H p = none → tPairs trs σ (upd H p (.dK [])) fun ps H2 => H2 p = some (.dK []) ∧ ∃ kvs : List (Key × V), ps = kvs.map (fun kv => (kV kv.1, kv.2)) ∧ kvs.length ≤ 15 ∧ Q (.ref p) (upd H2 p (.dK (mergeK [] kvs)))


/-! ### methods -/
/-- a method call o.m(e) of a built-in, with one argument: what must be seen of the text -/
structure M1 (X : Cx) (o : Expr) (m : Str) (apos : Pos) (e : Expr) (cpos : Pos) : Prop where
  base : attributeBase o m X.env (eval o X.env) = eval o X.env
  few : ((backTo cpos (starEach [e] X.env)).all (fun x => !x.1) && (backToKw cpos (keywordEach [] X.env)).all (fun x => x.1.isSome)
    && decide (([e] : List Expr).length + ([] : List Keyword).length + (if ([] : List Keyword).isEmpty then 0 else 1) < 30)) = true
  line : (apos.endLine == cpos.line) = true
  trees : backTo cpos (starEach [e] X.env) = [(false, eval e X.env)]
structure M2 (X : Cx) (o : Expr) (m : Str) (apos : Pos) (e f : Expr) (cpos : Pos) : Prop where
  base : attributeBase o m X.env (eval o X.env) = eval o X.env
  few : ((backTo cpos (starEach [e, f] X.env)).all (fun x => !x.1) && (backToKw cpos (keywordEach [] X.env)).all (fun x => x.1.isSome)
    && decide (([e, f] : List Expr).length + ([] : List Keyword).length + (if ([] : List Keyword).isEmpty then 0 else 1) < 30)) = true
  line : (apos.endLine == cpos.line) = true
  trees : backTo cpos (starEach [e, f] X.env) = [(false, eval e X.env), (false, eval f X.env)]

/-- a is a dict, whatever its keys -/
def IsD (H : Hp) (a : Addr) : Prop := (∃ kvs, Rd H a (.dK kvs)) ∨ ∃ kvs, Rd H a (.dT kvs)

section
variable {X : Cx} {pins : List (Addr × Obj)} {σ : St} {H : Hp} {s : Shared} {a : Addr} {y d : V} {u r : Value} {o : Option V} {A : Around} {E : Value → Shared → Prop}
end

def tDGet1 (td ty : TE) : TE := fun σ H Q => td σ H fun x H1 => ∃ a, x = .ref a ∧ IsD H1 a ∧ ty σ H1 fun y H2 => ∃ o, DGet H2 a y o ∧ Q (o.getD .non) H2
def tDGet2 (td ty tx : TE) : TE := fun σ H Q => td σ H fun x H1 => ∃ a, x = .ref a ∧ IsD H1 a ∧ ty σ H1 fun y H2 => tx σ H2 fun z H3 => ∃ o, DGet H3 a y o ∧ Q (o.getD z) H3
/-- d.pop(k): there; d.pop(k, x): there or not -/
def tDPop1 (td ty : TE) : TE := fun σ H Q => td σ H fun x H1 => ∃ a, x = .ref a ∧ IsD H1 a ∧ ty σ H1 fun y H2 => ∃ kvs k v, H2 a = some (.dK kvs) ∧ y = kV k ∧ valV kvs k = some v ∧ Q v (upd H2 a (.dK (dropK kvs k)))
def tDPop2 (td ty tx : TE) : TE := fun σ H Q => td σ H fun x H1 => ∃ a, x = .ref a ∧ IsD H1 a ∧ ty σ H1 fun y H2 => tx σ H2 fun z H3 => ∃ kvs k, H3 a = some (.dK kvs) ∧ y = kV k ∧
  (∀ v, valV kvs k = some v → Q v (upd H3 a (.dK (dropK kvs k)))) ∧ (valV kvs k = none → Q z H3)
section
variable {X : Cx} {o e f : Expr} {apos cpos : Pos} {td ty tx : TE}
end

/-! ### dict(d): a copy -/
section
variable {X : Cx} {pins : List (Addr × Obj)} {σ : St} {H : Hp} {s : Shared} {a : Addr} {kvs : List (Key × V)} {A : Around} {E : Value → Shared → Prop}
end


section
variable {X : Cx} {pins : List (Addr × Obj)} {σ : St} {H : Hp} {s : Shared} {a : Addr} {y : V} {u : Value} {A : Around} {E : Value → Shared → Prop}
end
end L2

namespace HT
open PySem PyProof.Rows

/-- t < u of tuples of ints -/
def lexLt : List Int → List Int → Bool
  | [], [] => false
  | [], _ :: _ => true
  | _ :: _, [] => false
  | x :: xs, y :: ys => if x = y then lexLt xs ys else decide (x < y)


section
open PySem.SeqAt
open PySem.AutoSeq1 (wpAny_loadPart')
open PySem.MeetsSeq PySem.MeetsSeq2 PySem.MeetsSeq3

end

section
variable {prog : Program} {w : World} {A : Around} {E : Value → Shared → Prop} {s : Shared}



/-! ### t[a:b], not the whole -/
/-- a slice's bound as a place among n (d where it is left out) -/
def sIx (n d : Nat) : Option Int → Nat
  | none => d
  | some v => if v < 0 then (v + (n : Int)).toNat else min v.toNat n
theorem sIx_none (n d : Nat) : sIx n d none = d := rfl
theorem sIx_nat (n d k : Nat) : sIx n d (some (k : Int)) = min k n := by
  show (if (k : Int) < 0 then ((k : Int) + (n : Int)).toNat else min (k : Int).toNat n) = min k n
  rw [if_neg (by omega), Int.toNat_natCast]

end
end HT

namespace L2
open PySem PySem.Spec PyProof.Rows

/-! ### the parts of a slice -/
abbrev TO := St → Hp → (Option Int → Hp → Prop) → Prop
/-- a slice's part (left out, or an int) -/
def PO (X : Cx) (e : Option Expr) (t : TO) : Prop :=
  ∀ (pins : List (Addr × Obj)) (s : Shared) (σ : St) (H : Hp) (Q : Option Int → Hp → Prop), Inv X pins σ H s → t σ H Q →
    wpAny (model X.prog X.w) X.A (evalPart e X.env) (fun u s' => ∃ o H', Inv X pins σ H' s' ∧ IsPart u o ∧ Q o H') X.xe s
def tNoPart : TO := fun _ H Q => Q none H
def tPart (t : TE) : TO := fun σ H Q => t σ H fun x H1 => ∃ i, x = .int i ∧ Q (some i) H1

theorem intsAre_of {ns : List Int} : ∀ {us : List Value}, Vals (ns.map V.int) us → IntsAre us ns := by
  induction ns with
  | nil => intro us r; rw [List.map_nil] at r; cases r; exact .nil
  | cons n ns ih =>
    intro us r
    rw [List.map_cons] at r
    cases r with
    | cons r1 r2 =>
      obtain ⟨t, e⟩ := r1
      subst e
      exact .cons n t (ih r2)

section
variable {X : Cx} {e : Expr} {te : TE} {lo hi : Option Expr} {tl th : TO} {pos p2 : Pos}

theorem po_none : PO X none tNoPart := by
  intro pins s σ H Q I h
  rw [evalPart_none]
  exact wpAny_pure ⟨none, H, I, .none, h⟩
theorem po_some (h : PE X e te) : PO X (some e) (tPart te) := by
  intro pins s σ H Q I hw
  rw [evalPart_some]
  refine thn (h pins s σ H _ I hw) fun u s1 ⟨x, H1, I1, r1, q1⟩ => ?_
  obtain ⟨i, rfl, q⟩ := q1
  obtain ⟨t, rfl⟩ := r1
  exact ⟨some i, H1, I1, .int i t, q⟩

/-- what a slice of a value is, by values: the slice object stands at sl -/
def SlR (X : Cx) (r : V → Option Int → Option Int → Hp → VK → Prop) : Prop :=
  ∀ (pins : List (Addr × Obj)) (s : Shared) (σ : St) (H : Hp) (x : V) (v vl vu : Value) (lo hi : Option Int) (sl : Addr) (Q : VK), Inv X pins σ H s → RelV x v → s.heap.IsSliceOf sl vl vu .none → IsPart vl lo → IsPart vu hi → r x lo hi H Q →
    ∃ T id, typeLookup (.type T) "__getitem__" = pure (some (.builtin id)) ∧ s.TypeIs v T ∧ wpAny (model X.prog X.w) X.A (getItem v (.ref sl)) (EP X pins σ Q) X.xe s
def tSl (r : V → Option Int → Option Int → Hp → VK → Prop) (te : TE) (tl th : TO) : TE := fun σ H Q => te σ H fun x H1 => tl σ H1 fun l H2 => th σ H2 fun u H3 => r x l u H3 Q
/-- a[lo:hi], any a -/
theorem pe_slice {r : V → Option Int → Option Int → Hp → VK → Prop} (hr : SlR X r) (he : PE X e te) (hl : PO X lo tl) (hu : PO X hi th) : PE X (.Subscript e (.Slice lo hi none p2) pos) (tSl r te tl th) := by
  intro pins s σ H Q I h
  refine Subscript_ (thn (he pins s σ H _ I h) fun v s1 ⟨x, H1, I1, r1, q1⟩ => ?_)
  refine wpAny_Slice (thn (hl pins s1 σ H1 _ I1 q1) fun vl s2 ⟨l, H2, I2, pl, q2⟩ => thn (hu pins s2 σ H2 _ I2 q2) fun vu s3 ⟨u, H3, I3, pu, q3⟩ => ?_)
  rw [evalPart_none]
  refine wpAny_pure ?_
  have I4 : Inv X pins σ H3 { s3 with heap := s3.heap.push { cls := .type "slice", data := .fields #[vl, vu, .none] } } := I3.kept (t' := s3.toks) fun b ob q => Heap.get?_push_of_some _ q
  obtain ⟨T, id, hT, ht, hg⟩ := hr pins { s3 with heap := s3.heap.push { cls := .type "slice", data := .fields #[vl, vu, .none] } } σ H3 x v vl vu l u s3.heap.objs.size Q I4 r1 (Heap.IsSliceOf.new ..) pl pu q3
  show wpAny (model X.prog X.w) X.A (subscriptTail e (.Slice lo hi none p2) v (.ref s3.heap.objs.size)) (EP X pins σ Q) X.xe { s3 with heap := s3.heap.push { cls := .type "slice", data := .fields #[vl, vu, .none] } }
  exact tail_any (ops := [.ref s3.heap.objs.size, v]) ht hT hg (by with_unfolding_all rfl)

/-- the items of xs[lo:hi] -/
def cutV (xs : List V) (lo hi : Option Int) : List V := (xs.drop (HT.sIx xs.length 0 lo)).take (HT.sIx xs.length xs.length hi - HT.sIx xs.length 0 lo)
theorem cutV_length (xs : List V) (lo hi : Option Int) : (cutV xs lo hi).length ≤ xs.length := by
  unfold cutV
  rw [List.length_take, List.length_drop]
  omega
/-- t[lo:hi], not the whole of it (the whole would be t itself) -/
def rSlT (K : PySem.W.Frag) : V → Option Int → Option Int → Hp → VK → Prop := fun x lo hi H Q => ∃ a xs, x = .ref a ∧ SqT K H a xs ∧
  ¬ (HT.sIx xs.length 0 lo = 0 ∧ HT.sIx xs.length xs.length hi = xs.length) ∧ ∀ p, H p = none → Q (.ref p) (upd H p (.tup (cutV xs lo hi)))

/-! ### t < u, t + u -/
def rLtT (K : PySem.W.Frag) : R2 := fun x y H Q => ∃ a b ns ms, x = .ref a ∧ y = .ref b ∧ SqT K H a (ns.map V.int) ∧ SqT K H b (ms.map V.int) ∧ Q (.bl (HT.lexLt ns ms)) H
/-- t + u, t not empty: u empty gives t itself -/
def rCatT (K : PySem.W.Frag) : R2 := fun x y H Q => ∃ a b xs ys, x = .ref a ∧ y = .ref b ∧ SqT K H a xs ∧ SqT K H b ys ∧ xs ≠ [] ∧ xs.length + ys.length ≤ sizeLine ∧
  (ys = [] → Q (.ref a) H) ∧ (ys ≠ [] → ∀ p, H p = none → Q (.ref p) (upd H p (.tup (xs ++ ys))))
end
end L2

namespace L2
open PySem PySem.Spec PyProof.Rows

/-! ### places -/
/-- the place that an index of any sign means -/
def ixN (n : Nat) (i : Int) : Option Nat := if 0 ≤ i then (if i < n then some i.toNat else none) else if -(n : Int) ≤ i then some (i + n).toNat else none
def atI {α : Type} (xs : List α) (i : Int) : Option α := (ixN xs.length i).bind fun j => xs[j]?
theorem ixN_seq {n : Nat} {i : Int} {j : Nat} (h : ixN n i = some j) : seqIndex? i n = some j ∧ j < n ∧ -(n : Int) ≤ i ∧ i < n := by
  unfold ixN at h
  by_cases h0 : 0 ≤ i
  · rw [if_pos h0] at h
    by_cases h1 : i < n
    · rw [if_pos h1] at h
      have e : i.toNat = j := Option.some.inj h
      exact ⟨by rw [seqIndex_of h0 h1, e], by omega, by omega, h1⟩
    · rw [if_neg h1] at h; cases h
  · rw [if_neg h0] at h
    by_cases h1 : -(n : Int) ≤ i
    · rw [if_pos h1] at h
      have e : (i + n).toNat = j := Option.some.inj h
      exact ⟨by rw [seqIndex_neg (by omega) h1, e], by omega, h1, by omega⟩
    · rw [if_neg h1] at h; cases h
theorem atI_get {α : Type} {xs : List α} {i : Int} {v : α} (h : atI xs i = some v) : ∃ j, seqIndex? i xs.length = some j ∧ xs[j]? = some v ∧ j < xs.length ∧ -(xs.length : Int) ≤ i ∧ i < xs.length := by
  unfold atI at h
  cases e : ixN xs.length i with
  | none => rw [e] at h; cases h
  | some j =>
    rw [e] at h
    obtain ⟨h1, h2, h3, h4⟩ := ixN_seq e
    exact ⟨j, h1, h, h2, h3, h4⟩
theorem atI_nat {α : Type} {xs : List α} {j : Nat} {v : α} (h : xs[j]? = some v) : atI xs (j : Int) = some v := by
  have hj : j < xs.length := (List.getElem?_eq_some_iff.mp h).1
  have e : ixN xs.length (j : Int) = some j := by
    unfold ixN
    rw [if_pos (by omega), if_pos (by omega)]; simp
  unfold atI; rw [e]; exact h

/-! ### what may be subscripted -/
/-- what stands as an index of a plain subscript -/
def PlainIx (b : Expr) : Prop := ∀ o i, subscripted b false o i = operate [o, i] (getItem o i)
/-- a subscript by values -/
def IxR (X : Cx) (r : R2) : Prop :=
  ∀ (value slice : Expr) (pins : List (Addr × Obj)) (s : Shared) (σ : St) (H : Hp) (x y : V) (v u : Value) (Q : VK), Inv X pins σ H s → RelV x v → RelV y u → r x y H Q →
    subscripted slice false v u = operate [v, u] (getItem v u) → wpAny (model X.prog X.w) X.A (subscriptTail value slice v u) (EP X pins σ Q) X.xe s
/-- a call of a builtin's method by values: the receiver, the arguments -/
def MtR (X : Cx) (id : String) (r : V → List V → Hp → VK → Prop) : Prop :=
  ∀ (pins : List (Addr × Obj)) (s : Shared) (σ : St) (H : Hp) (x : V) (xs : List V) (v : Value) (us : List Value) (Q : VK), Inv X pins σ H s → RelV x v → Vals xs us → r x xs H Q →
    wpAny (model X.prog X.w) X.A (call (.builtin id) (v :: us)) (EP X pins σ Q) X.xe s
section
variable {X : Cx} {a b : Expr} {ta tb : TE} {pos : Pos}
/-- a[b] -/
theorem pe_ix {r : R2} (hr : IxR X r) (ha : PE X a ta) (hb : PE X b tb) (hs : PlainIx b) : PE X (.Subscript a b pos) (tOp r ta tb) := by
  intro pins s σ H Q I h
  exact Subscript_ (binT ha hb I h fun v u s2 x y H2 I2 rx ry q => hr a b pins s2 σ H2 x y v u Q I2 rx ry q (hs _ _))

def rIxL (K : PySem.W.Frag) : R2 := fun x y H Q => ∃ p xs i v, x = .ref p ∧ y = .int i ∧ SqL K H p xs ∧ atI xs i = some v ∧ Q v H
def rIxT (K : PySem.W.Frag) : R2 := fun x y H Q => ∃ p xs i v, x = .ref p ∧ y = .int i ∧ SqT K H p xs ∧ atI xs i = some v ∧ Q v H
def rIxS : R2 := fun x y H Q => ∃ z i c, x = .str z ∧ y = .int i ∧ z.length ≤ sizeLine ∧ atI z.cps.toList i = some c ∧ Q (.str ⟨#[c]⟩) H
theorem ix_list : IxR X (rIxL X.K) := by
  intro value slice pins s σ H x y v u Q I rx ry h hs
  obtain ⟨p, xs, i, z, rfl, rfl, hq, he, q⟩ := h
  cases rx
  obtain ⟨t, rfl⟩ := ry
  obtain ⟨its, r, pl, hz⟩ := I.list hq
  obtain ⟨j, h1, h2, h3, h4, h5⟩ := atI_get he
  obtain ⟨w, ew, rw'⟩ := r.get h2
  have hl := r.length
  have hn := line63
  have fin : EP X pins σ Q w s := ⟨z, H, I, rw', q⟩
  by_cases h0 : 0 ≤ i
  · have hj : i.toNat = j := by
      rw [seqIndex_of h0 h5] at h1
      exact Option.some.inj h1
    exact item_listR pl.isList h0 (by omega) (by rw [hj]; simpa using ew) fin hs
  · have hj : (i + (its.toArray.size : Int)).toNat = j := by
      rw [seqIndex_neg (by omega) h4] at h1
      rw [List.size_toArray, ← hl]
      exact Option.some.inj h1
    exact subscriptTail_builtinR (x := w) pl.isList.typeIs slot_list_getitem.lookup
      (wpAny_getItem_list_neg (Q := fun r s' => r = w ∧ EP X pins σ Q r s') pl.isList (by omega) (by rw [List.size_toArray] <;> omega) (by omega) (by rw [hj]; simpa using ew) ⟨rfl, fin⟩) hs
theorem ix_tup : IxR X (rIxT X.K) := by
  intro value slice pins s σ H x y v u Q I rx ry h hs
  obtain ⟨p, xs, i, z, rfl, rfl, hq, he, q⟩ := h
  cases rx
  obtain ⟨t, rfl⟩ := ry
  obtain ⟨its, r, pl, hz⟩ := I.tuple hq
  obtain ⟨j, h1, h2, h3, h4, h5⟩ := atI_get he
  obtain ⟨w, ew, rw'⟩ := r.get h2
  have hl := r.length
  have hn := line63
  have fin : EP X pins σ Q w s := ⟨z, H, I, rw', q⟩
  exact subscriptTail_builtinR (x := w) pl.typeIs slot_tuple_getitem.lookup
    (getItem_tuple (j := j) (Q := fun r s' => r = w ∧ EP X pins σ Q r s') pl (by omega) (by omega) (by rw [List.size_toArray, ← hl]; exact h1) (by simpa using ew) ⟨rfl, fin⟩) hs
/-- list, tuple or str -/
def rIx (K : PySem.W.Frag) : R2 := fun x y H Q => rIxL K x y H Q ∨ rIxT K x y H Q ∨ rIxS x y H Q

/-! ### xs[i] = v, any sign -/
def rSetL : V → V → V → Hp → (Hp → Prop) → Prop := fun o i v H Q => ∃ p xs k j, o = .ref p ∧ i = .int k ∧ H p = some (.lst xs) ∧ ixN xs.length k = some j ∧ Q (upd H p (.lst (xs.set j v)))

/-! ### slices -/
theorem slice_bounds (lo hi : Option Int) (n : Nat) : (sliceBounds lo hi none n).1 = ((HT.sIx n 0 lo : Nat) : Int) ∧ (sliceBounds lo hi none n).2.1 = ((HT.sIx n n hi : Nat) : Int) ∧ (sliceBounds lo hi none n).2.2 = 1 := by
  refine ⟨?_, ?_, rfl⟩
  · cases lo with
    | none => simp [sliceBounds, HT.sIx]
    | some i =>
      simp only [sliceBounds, HT.sIx, Option.getD_none, show (1 : Int) > 0 by decide, if_true]
      by_cases h : i < 0
      · simp only [h, if_true] <;> omega
      · simp only [h, if_false] <;> omega
  · cases hi with
    | none => simp [sliceBounds, HT.sIx]
    | some i =>
      simp only [sliceBounds, HT.sIx, Option.getD_none, show (1 : Int) > 0 by decide, if_true]
      by_cases h : i < 0
      · simp only [h, if_true] <;> omega
      · simp only [h, if_false] <;> omega
theorem slicePick_cut (its : List Value) (lo hi : Option Int) : slicePick its.toArray lo hi none = ((its.drop (HT.sIx its.length 0 lo)).take (HT.sIx its.length its.length hi - HT.sIx its.length 0 lo)).toArray := by
  obtain ⟨h1, h2, h3⟩ := slice_bounds lo hi its.toArray.size
  unfold slicePick
  rw [h1, h2, h3]
  simp only [sliceRange_one, pick_run, List.size_toArray] <;> rfl
/-- xs[lo:hi] of a list: a new list -/
def rSlL (K : PySem.W.Frag) : V → Option Int → Option Int → Hp → VK → Prop := fun x lo hi H Q => ∃ a xs, x = .ref a ∧ SqL K H a xs ∧ ∀ p, H p = none → Q (.ref p) (upd H p (.lst (cutV xs lo hi)))
theorem sl_list : SlR X (rSlL X.K) := by
  intro pins s σ H x v vl vu lo hi sl Q I rx hs pl pu h
  obtain ⟨a, xs, rfl, hx, q⟩ := h
  cases rx
  obtain ⟨its, r, ht, hz⟩ := I.list hx
  have hlen := r.length
  refine ⟨"list", _, slot_list_getitem.lookup, ht.isList.typeIs, ?_⟩
  refine wpAny_getItem_list_slice ht.isList hs pl pu .none (by simp) ?_ (by rw [List.size_toArray] <;> omega)
  rw [slicePick_cut, ← hlen]
  refine ⟨.ref s.heap.objs.size, _, I.laid (t' := s.toks) (o := .lst (cutV xs lo hi)) (fun b ob q => Heap.get?_push_of_some _ q) (Nat.le_refl _) ?_, rfl, q _ (I.hok.fresh (Nat.le_refl _))⟩
  exact ⟨Nat.le_trans (cutV_length xs lo hi) hz, _, 0, (r.drop (HT.sIx xs.length 0 lo)).take (HT.sIx xs.length xs.length hi - HT.sIx xs.length 0 lo), Heap.get?_push_size _ rfl⟩

/-! ### in, not in: flat items -/
def flatV : V → Bool
  | .non => true
  | .bl _ => true
  | .int _ => true
  | .str _ => true
  | _ => false
/-- == of flat values -/
def eqV : V → V → Bool
  | .non, .non => true
  | .bl a, .bl b => a == b
  | .bl a, .int b => (if a then 1 else 0) == b
  | .int a, .bl b => a == (if b then 1 else 0)
  | .int a, .int b => a == b
  | .str a, .str b => a == b
  | _, _ => false
theorem eqAt_V {A : Around} {s : Shared} {y x : V} {u v : Value} (ry : RelV y u) (rx : RelV x v) (fy : flatV y = true) (fx : flatV x = true) : SeqAt.EqAt A s u v (eqV y x) := by
  cases y with
  | non =>
    cases ry
    cases x with
    | non => cases rx; exact SeqAt.EqAt.same _
    | bl b => cases rx; exact SeqAt.EqAt.none_bool b
    | int b => obtain ⟨t, rfl⟩ := rx; exact SeqAt.EqAt.none_int b t
    | str b => obtain ⟨t, rfl⟩ := rx; exact SeqAt.EqAt.none_str b t
    | _ => exact absurd (show false = true from fx) Bool.false_ne_true
  | bl a =>
    cases ry
    cases x with
    | non => cases rx; exact SeqAt.EqAt.bool_none a
    | bl b => cases rx; exact SeqAt.EqAt.bool_bool a b
    | int b => obtain ⟨t, rfl⟩ := rx; exact SeqAt.EqAt.bool_int a b t
    | str b => obtain ⟨t, rfl⟩ := rx; exact SeqAt.EqAt.bool_str a b t
    | _ => exact absurd (show false = true from fx) Bool.false_ne_true
  | int a =>
    obtain ⟨t', rfl⟩ := ry
    cases x with
    | non => cases rx; exact SeqAt.EqAt.int_none a t'
    | bl b => cases rx; exact SeqAt.EqAt.int_bool a t' b
    | int b => obtain ⟨t, rfl⟩ := rx; exact SeqAt.EqAt.int_int a t' b t
    | str b => obtain ⟨t, rfl⟩ := rx; exact SeqAt.EqAt.int_str a t' b t
    | _ => exact absurd (show false = true from fx) Bool.false_ne_true
  | str a =>
    obtain ⟨t', rfl⟩ := ry
    cases x with
    | non => cases rx; exact SeqAt.EqAt.str_none a t'
    | bl b => cases rx; exact SeqAt.EqAt.str_bool a t' b
    | int b => obtain ⟨t, rfl⟩ := rx; exact SeqAt.EqAt.str_int a t' b t
    | str b => obtain ⟨t, rfl⟩ := rx; exact SeqAt.EqAt.str_str a t' b t
    | _ => exact absurd (show false = true from fx) Bool.false_ne_true
  | _ => exact absurd (show false = true from fy) Bool.false_ne_true
/-- the items' answers, read off the values (a value's own answer does not lean on its token) -/
def eqU (x : V) (u : Value) : Bool := match u with
  | .none => eqV .non x
  | .bool b => eqV (.bl b) x
  | .int i _ => eqV (.int i) x
  | .str z _ => eqV (.str z) x
  | _ => false
theorem eqU_of {x y : V} {u : Value} (r : RelV y u) (f : flatV y = true) : eqU x u = eqV y x := by
  cases y with
  | non => cases r; rfl
  | bl b => cases r; rfl
  | int i => obtain ⟨t, rfl⟩ := r; rfl
  | str z => obtain ⟨t, rfl⟩ := r; rfl
  | _ => exact absurd (show false = true from f) Bool.false_ne_true
theorem any_eqU {x : V} : ∀ {xs : List V} {us : List Value}, Vals xs us → xs.all flatV = true → us.any (eqU x) = xs.any fun y => eqV y x
  | _, _, .nil, _ => rfl
  | y :: xs, u :: us, .cons r t, f => by
    rw [List.all_cons, Bool.and_eq_true] at f
    rw [List.any_cons, List.any_cons, eqU_of r f.1, any_eqU t f.2]
theorem mem_eqAt {A : Around} {s : Shared} {x : V} {v : Value} (rx : RelV x v) (fx : flatV x = true) : ∀ {xs : List V} {us : List Value}, Vals xs us → xs.all flatV = true → ∀ u ∈ us, SeqAt.EqAt A s u v (eqU x u)
  | _, _, .nil, _ => fun u hu => by cases hu
  | y :: xs, u :: us, .cons r t, f => fun u' hu => by
    rw [List.all_cons, Bool.and_eq_true] at f
    rcases List.mem_cons.mp hu with rfl | hu
    · rw [eqU_of r f.1]; exact eqAt_V r rx f.1 fx
    · exact mem_eqAt rx fx t f.2 u' hu
def inV (x : V) (xs : List V) : Bool := xs.any fun y => eqV y x
/-- x in a list or tuple of flat items -/
def rIn (K : PySem.W.Frag) (neg : Bool) : R2 := fun x y H Q => ∃ p xs, y = .ref p ∧ (SqL K H p xs ∨ SqT K H p xs) ∧ flatV x = true ∧ xs.all flatV = true ∧ Q (.bl (if neg then !inV x xs else inV x xs)) H
theorem op_in_seq : OpR X (compareOp .In) (rIn X.K false) := by
  intro pins s σ H x y v u Q I rx ry h
  obtain ⟨p, xs, rfl, hq, fx, fs, q⟩ := h
  cases ry
  rcases hq with hq | hq
  · obtain ⟨its, r, pl, hz⟩ := I.list hq
    refine SeqAt.in_listAt (eqU x) pl.isList (fun w hw => mem_eqAt rx fx r fs w (by simpa using hw)) ⟨.bl _, H, I, rfl, ?_⟩
    rw [show its.toArray.any (eqU x) = its.any (eqU x) by simp, any_eqU r fs]
    exact q
  · obtain ⟨its, r, pl, hz⟩ := I.tuple hq
    refine SeqAt.in_tupleAt (eqU x) pl (fun w hw => mem_eqAt rx fx r fs w (by simpa using hw)) ⟨.bl _, H, I, rfl, ?_⟩
    rw [show its.toArray.any (eqU x) = its.any (eqU x) by simp, any_eqU r fs]
    exact q

/-! ### len, list(x), tuple(x) of any list or tuple that is read -/
theorem call_len_seq : CallR X (.builtin "len") (fun xs H Q => ∃ p ys, xs = [.ref p] ∧ (SqL X.K H p ys ∨ SqT X.K H p ys) ∧ Q (.int ys.length) H) := by
  intro pins s σ H xs us Q I r h
  obtain ⟨p, ys, rfl, hq, q⟩ := h
  obtain ⟨u, rfl, rx⟩ := vals1 r
  cases rx
  have hn := line63
  rcases hq with hq | hq
  · obtain ⟨its, r', pl, hz⟩ := I.list hq
    have hlen := r'.length
    exact Calls.call_len_list pl.isList (by simp only [List.size_toArray] <;> omega) ⟨.int ys.length, H, I.tok _, ⟨s.toks + 1, by rw [List.size_toArray, hlen]⟩, q⟩
  · obtain ⟨its, r', pl, hz⟩ := I.tuple hq
    have hlen := r'.length
    exact len_tuple pl (by simp only [List.size_toArray] <;> omega) ⟨.int ys.length, H, I.tok _, ⟨s.toks + 1, by rw [List.size_toArray, hlen]⟩, q⟩
theorem call_list_of : CallR X (.type "list") (fun xs H Q => ∃ p ys, xs = [.ref p] ∧ (SqL X.K H p ys ∨ SqT X.K H p ys) ∧ ∀ l, H l = none → Q (.ref l) (upd H l (.lst ys))) := by
  intro pins s σ H xs us Q I r h
  obtain ⟨p, ys, rfl, hq, q⟩ := h
  obtain ⟨u, rfl, rx⟩ := vals1 r
  cases rx
  have fin : ∀ (its : List Value), Vals ys its → ys.length ≤ sizeLine → ∀ (h' : Heap) (c' : Nat), (∀ b o', s.heap.get? b = some o' → h'.get? b = some o') →
      h'.get? s.heap.objs.size = some { cls := .type "list", dict := none, data := .seq its.toArray c', slots := #[] } → EP X pins σ Q (.ref s.heap.objs.size) { s with heap := h' } := fun its r' hz h' c' kp e =>
    ⟨.ref s.heap.objs.size, _, I.laid (t' := s.toks) kp (Nat.le_refl _) (show ObjOk X.prog X.w _ h' _ (.lst ys) from ⟨hz, its, c', r', e⟩), rfl, q _ (I.hok.fresh (Nat.le_refl _))⟩
  rcases hq with hq | hq
  · obtain ⟨its, r', pl, hz⟩ := I.list hq
    have hlen := r'.length
    obtain ⟨o, ho, hc, n, hd⟩ := pl.isList
    exact call_list_seq p (.inl rfl) ho hc hd (fun h' c' kp e => fin its r' hz h' c' kp e) (by simp only [List.size_toArray] <;> omega)
  · obtain ⟨its, r', pl, hz⟩ := I.tuple hq
    have hlen := r'.length
    obtain ⟨o, ho, hc, n, hd⟩ := pl
    exact call_list_seq p (.inr rfl) ho hc hd (fun h' c' kp e => fin its r' hz h' c' kp e) (by simp only [List.size_toArray] <;> omega)

/-! ### the call of a builtin's method: o.m(..) -/
/-- the value is of that builtin type -/
def tyV (K : PySem.W.Frag) (T : String) (x : V) (H : Hp) : Prop := match x with
  | .str _ => T = "str"
  | .int _ => T = "int"
  | .ref p => (T = "list" ∧ ∃ xs, SqL K H p xs) ∨ (T = "tuple" ∧ ∃ o, K.lookup p = some o ∧ o.cls = .type "tuple" ∧ o.dict = none) ∨
      (T = "dict" ∧ ((∃ kvs, H p = some (.dK kvs)) ∨ ∃ kvs, H p = some (.dT kvs))) ∨ (T = "set" ∧ ∃ S n, H p = some (.set S n))
  | _ => False
theorem tyV_is {pins : List (Addr × Obj)} {σ : St} {H : Hp} {s : Shared} {T : String} {x : V} {v : Value} (I : Inv X pins σ H s) (r : RelV x v) (ty : tyV X.K T x H) :
    s.TypeIs v T ∧ ∀ a, v = .ref a → ∃ ob, s.heap.get? a = some ob ∧ ob.dict = none := by
  cases x with
  | str z =>
    obtain ⟨t, rfl⟩ := r
    cases (show T = "str" from ty)
    exact ⟨typeIs_str s z t, fun _ e => nomatch e⟩
  | int i =>
    obtain ⟨t, rfl⟩ := r
    cases (show T = "int" from ty)
    exact ⟨typeIs_int s i t, fun _ e => nomatch e⟩
  | ref p =>
    cases r
    rcases ty with ⟨rfl, xs, hq⟩ | ⟨rfl, o, hk, hc, hd⟩ | ⟨rfl, hk⟩ | ⟨rfl, S, n, hk⟩
    · obtain ⟨its, _, pl, _⟩ := I.list hq
      refine ⟨pl.isList.typeIs, fun a e => ?_⟩
      cases e
      obtain ⟨o, n, e, c, hd, _⟩ := pl
      exact ⟨o, e, hd⟩
    · refine ⟨⟨o, I.kIn p o hk, hc⟩, fun a e => ?_⟩
      cases e
      exact ⟨o, I.kIn _ o hk, hd⟩
    · have z : ∃ o, s.heap.get? p = some o ∧ o.ExactDict := by
        rcases hk with ⟨kvs, hk⟩ | ⟨kvs, hk⟩
        · obtain ⟨_, _, _, _, o, _, _, e, ex, _⟩ := I.hok p _ hk
          exact ⟨o, e, ex⟩
        · obtain ⟨_, _, _, _, o, _, _, e, ex, _⟩ := I.hok p _ hk
          exact ⟨o, e, ex⟩
      obtain ⟨o, e, ex⟩ := z
      refine ⟨⟨o, e, ex.1⟩, fun a e2 => ?_⟩
      cases e2
      exact ⟨o, e, ex.2.1⟩
    · obtain ⟨o, _, _, _, e, ex, _⟩ := I.hok p _ hk
      refine ⟨⟨o, e, ex.1⟩, fun a e2 => ?_⟩
      cases e2
      exact ⟨o, e, ex.2.1⟩
  | _ => exact False.elim ty
def tBM0 (K : PySem.W.Frag) (T : String) (r : V → List V → Hp → VK → Prop) (to : TE) : TE := fun σ H Q => to σ H fun x H1 => tyV K T x H1 ∧ r x [] H1 Q
def tBM (K : PySem.W.Frag) (T : String) (r : V → List V → Hp → VK → Prop) (to : TE) (t : TA) : TE := fun σ H Q => to σ H fun x H1 => tyV K T x H1 ∧ t σ H1 fun xs H2 => r x xs H2 Q
variable {o e : Expr} {es : List Expr} {to : TE} {t : TA} {name : Str} {apos cpos : Pos} {T id : String} {r : V → List V → Hp → VK → Prop}
theorem pe_bm (pa : PlainAttrs T) (slot : Slot T name id) (hty : typeOf (.builtin id) = pure (.type "method_descriptor")) (hm : MtR X id r) (ho : PE X o to) (ha : PA X (e :: es) t)
    (hbase : attributeBase o name X.env (eval o X.env) = eval o X.env := by rfl)
    (hfew : ((backTo cpos (starEach (e :: es) X.env)).all (fun x => !x.1) && (backToKw cpos (keywordEach [] X.env)).all (fun x => x.1.isSome)
      && decide ((e :: es).length + ([] : List Keyword).length + (if ([] : List Keyword).isEmpty then 0 else 1) < 30)) = true := by rfl)
    (hline : (apos.endLine == cpos.line) = true := by rfl) (hs : starEach (e :: es) X.env = (false, eval e X.env) :: starEach es X.env := by rfl) (hplain : (backTo cpos (starEach es X.env)).any (·.1) = false := by rfl) :
    PE X (.Call (.Attribute o name apos) (e :: es) [] cpos) (tBM X.K T r to t) := by
  intro pins s σ H Q I h
  refine wpAny_Call_method_late hbase hfew hline rfl (thn (ho pins s σ H _ I h) fun v s1 ⟨x, H1, I1, r1, ty, q1⟩ => ?_)
  obtain ⟨h1, h2⟩ := tyV_is I1 r1 ty
  refine ⟨T, id, pa, slot, hty, h1, h2, ?_⟩
  have hA := ha cpos pins s1 σ H1 _ I1 q1
  rw [hs] at hA ⊢
  refine Calls.callWith_builtin (by show (false || (backTo cpos (starEach es X.env)).any (·.1)) = false; rw [hplain] <;> rfl) (Calls.evalArgs_plain ?_)
  exact thn hA fun us s2 ⟨vs, H2, I2, r2, q2⟩ => hm pins s2 σ H2 x vs v us Q I2 r1 r2 q2
/- xs.append(e), list.index on a module's tuple .. are MtR facts of 06m -/
end
end L2

namespace L2
open PySem PySem.Spec PyProof.Rows

def MtM (X : Cx) (id : String) (r : V → List V → Hp → VK → Prop) : Prop :=
  ∀ (pins : List (Addr × Obj)) (s : Shared) (σ : St) (H : Hp) (x : V) (xs : List V) (v : Value) (us : List Value) (Q : VK), Inv X pins σ H s → RelV x v → Vals xs us → r x xs H Q →
    wpAny (model X.prog X.w) X.A (call (.builtin id) (v :: us)) (EP X pins σ Q) X.xe s

/-! ### lists of values -/
theorem Vals.one : ∀ {x : V} {us : List Value}, Vals [x] us → ∃ u, us = [u] ∧ RelV x u
  | _, _, .cons r .nil => ⟨_, rfl, r⟩

section
variable {X : Cx} {pins : List (Addr × Obj)} {σ : St} {H : Hp} {s : Shared} {l b : Addr} {xs ys zs : List V}

/-! ### the two steps: a tracked list is rewritten, a new list is laid -/
theorem Inv.lset {its its' : List Value} {n : Nat} {f : Array Value → Array Value} {t' : Nat} (I : Inv X pins σ H s) (hH : H l = some (.lst xs))
    (e : s.heap.get? l = some { cls := .type "list", data := .seq its.toArray n }) (hf : f its.toArray = its'.toArray) (hv : Vals ys its') (hz : ys.length ≤ sizeLine) :
    Inv X pins σ (upd H l (.lst ys)) { s with heap := s.heap.update l (Obj.mapSeq f), toks := t' } := by
  have q := PySem.IsL.update e f
  rw [hf] at q
  refine I.write (x := l) (e := l) (by rw [hH]; exact trivial) (.inl rfl) (fun b' u hb hu => (Heap.get?_update_other s.heap (Obj.mapSeq f) (Ne.symm hb)).trans hu) ⟨_, q⟩ ?_
  exact ⟨hz, its', _, hv, q⟩
theorem Inv.lnew {its : List Value} {t' : Nat} (I : Inv X pins σ H s) (hv : Vals ys its) (hz : ys.length ≤ sizeLine) :
    Inv X pins σ (upd H s.heap.objs.size (.lst ys)) { s with heap := s.heap.push { cls := .type "list", data := .seq its.toArray }, toks := t' } :=
  I.laid (fun _ _ q => Heap.get?_push_of_some _ q) (Nat.le_refl _) ⟨hz, its, 0, hv, Heap.get?_push_size _ rfl⟩
theorem Inv.fresh (I : Inv X pins σ H s) : H s.heap.objs.size = none := I.hok.fresh (Nat.le_refl _)
theorem Inv.lstM (I : Inv X pins σ H s) (hH : H l = some (.lst xs)) : xs.length ≤ sizeLine ∧ ∃ (its : List Value) (n : Nat), Vals xs its ∧ xs.length = its.length ∧ s.heap.get? l = some { cls := .type "list", data := .seq its.toArray n } := by
  obtain ⟨z, its, n, r, e⟩ := I.hok l _ hH
  exact ⟨z, its, n, r, r.length, e⟩

end

section
variable {X : Cx}

/-! ### methods -/
def rAppend : V → List V → Hp → VK → Prop := fun x vs H Q => ∃ l xs y, x = .ref l ∧ vs = [y] ∧ H l = some (.lst xs) ∧ xs.length < sizeLine ∧ Q .non (upd H l (.lst (xs ++ [y])))
theorem mt_append : MtM X "list.append" rAppend := by
  intro pins s σ H x vs v us Q I rx rv h
  obtain ⟨l, xs, y, rfl, rfl, hH, hz, q⟩ := h
  cases rx
  obtain ⟨u, rfl, ru⟩ := rv.one
  obtain ⟨z, its, n, r, hl, e⟩ := I.lstM hH
  refine call_meets F.slot_list_append ⟨_, e, rfl⟩ F.entry_list_append (F.args_list_append_2 _ _) (PySem.list_append l its.toArray n u (by rw [List.size_toArray]; omega)) ⟨e, ?_⟩
  refine ⟨.non, _, I.lset (its' := its ++ [u]) hH e (by simp) (r.append (.cons ru .nil)) ?_, rfl, q⟩
  rw [List.length_append, List.length_singleton]
  omega

def rExtend : V → List V → Hp → VK → Prop := fun x vs H Q => ∃ l b xs zs, x = .ref l ∧ vs = [.ref b] ∧ H l = some (.lst xs) ∧ H b = some (.lst zs) ∧ xs.length + zs.length ≤ sizeLine ∧ Q .non (upd H l (.lst (xs ++ zs)))

def rPop : V → List V → Hp → VK → Prop := fun x vs H Q => ∃ l xs y, x = .ref l ∧ vs = [] ∧ H l = some (.lst xs) ∧ xs[xs.length - 1]? = some y ∧ Q y (upd H l (.lst xs.dropLast))

def rPopAt : V → List V → Hp → VK → Prop := fun x vs H Q => ∃ l xs i k y, x = .ref l ∧ vs = [.int i] ∧ H l = some (.lst xs) ∧ -(2 ^ 63) ≤ i ∧ i < 2 ^ 63 ∧ seqIndex? i xs.length = some k ∧ xs[k]? = some y ∧ Q y (upd H l (.lst (xs.eraseIdx k)))

def rReverse : V → List V → Hp → VK → Prop := fun x vs H Q => ∃ l xs, x = .ref l ∧ vs = [] ∧ H l = some (.lst xs) ∧ Q .non (upd H l (.lst xs.reverse))

def rClear : V → List V → Hp → VK → Prop := fun x vs H Q => ∃ l xs, x = .ref l ∧ vs = [] ∧ H l = some (.lst xs) ∧ Q .non (upd H l (.lst []))

/-! ### list + list, list += list, list * int -/
def rCat : R2 := fun x y H Q => ∃ l b xs zs, x = .ref l ∧ y = .ref b ∧ H l = some (.lst xs) ∧ H b = some (.lst zs) ∧ xs.length + zs.length ≤ sizeLine ∧ ∀ p, H p = none → Q (.ref p) (upd H p (.lst (xs ++ zs)))
theorem op_cat : OpR X (binaryOp .Add) rCat := by
  intro pins s σ H x y v u Q I rx ry h
  obtain ⟨l, b, xs, zs, rfl, rfl, hH, hB, hz, q⟩ := h
  cases rx
  cases ry
  obtain ⟨z, its, n, r, hl, e⟩ := I.lstM hH
  obtain ⟨z2, its2, n2, r2, hl2, e2⟩ := I.lstM hB
  refine PySem.P.add_list e e2 ?_ (by rw [List.size_toArray, List.size_toArray]; omega)
  have ea : its.toArray ++ its2.toArray = (its ++ its2).toArray := by simp
  rw [ea]
  exact ⟨.ref _, _, I.lnew (t' := s.toks) (r.append r2) (by rw [List.length_append]; omega), rfl, q _ I.fresh⟩
/-- a list times an int (a negative one is nothing) -/
def rRep : R2 := fun x y H Q => ∃ l k xs, x = .ref l ∧ y = .int k ∧ H l = some (.lst xs) ∧ -(2 ^ 63) ≤ k ∧ k < 2 ^ 63 ∧ xs.length * k.toNat ≤ sizeLine ∧
  ∀ p, H p = none → Q (.ref p) (upd H p (.lst (List.replicate k.toNat xs).flatten))

/-! ### del xs[i] -/
end

/-! ### xs[a:b] = ys -/
section
variable {prog : Program} {w : World} {A : Around} {E : Value → Shared → Prop} {s : Shared}
end

section
variable {X : Cx}
end
end L2

namespace Att
open PySem PySem.W PySem.Calls PyProof.Rows

/-! ### the script -/
theorem ints_of_wellAll {P : Params} {h : Heap} : ∀ (ns : List Int) (vs : List Value), WellAll P h vs (ns.map WData.int) → IntsAre vs ns := by
  intro ns
  induction ns with
  | nil =>
    intro vs w
    rw [List.map_nil] at w
    cases w
    exact .nil
  | cons n ns ih =>
    intro vs w
    rw [List.map_cons] at w
    cases w with
    | cons a b =>
      cases a
      exact .cons _ _ (ih _ b)

theorem script_of {l : OpenLaw} {n : Nat} (hn : l.most = some n) {P : Params} {h : Heap} {args : List WData} {vals : List Value}
    (hpre : l.row.toRowW.claim.pre args = true) (hwl : WellAll P h vals args) :
    ∃ a vs ns, vals = [Value.ref a] ∧ args = [WData.list (ns.map WData.int)] ∧ h.get? a = some { cls := .type "list", data := .seq vs.toArray } ∧ IntsAre vs ns ∧ ns.length ≤ n := by
  have hsh : WShape.hasAll [] args [.list .int] = true := (pre_splitW hpre).1
  have hc : l.pre.holds [] { args := args } = true := (pre_splitW hpre).2
  obtain ⟨d, r, rfl, h1, h2⟩ := hasAllW_cons hsh
  obtain rfl := hasAllW_nil h2
  obtain ⟨xs, rfl, h3⟩ := hasW_list h1
  obtain ⟨ns, rfl⟩ := items_int h3
  have hlen : ns.length ≤ n := by
    unfold OpenLaw.pre at hc
    have h4 : (WTm.not (.lt (.lit (.int (n : Int))) (.len (.arg 0)))).holds [] { args := [.list (ns.map .int)] } = true := by
      have h4 := (holds_andW hc).1
      rw [hn] at h4
      exact h4
    have h5 := condW_of h4 (w_not (w_lt w_lit (w_len_list (w_arg rfl))))
    rw [List.length_map] at h5
    refine Nat.le_of_not_lt fun q => ?_
    have q' : (n : Int) < ((ns.length : Nat) : Int) := by omega
    first
      | (rw [decide_eq_true q'] at h5; exact absurd h5 (by decide))
      | (simp at h5; omega)
  cases hwl with
  | cons w1 w2 =>
    cases w2
    cases w1 with
    | list ho hall => exact ⟨_, _, ns, rfl, rfl, ho, ints_of_wellAll ns _ hall, hlen⟩

theorem post_true (l : OpenLaw) (args : List WData) : l.row.toRowW.claim.post args (.bool true) args = true :=
  postW_of (r := l.row.toRowW) (X := (true == true))
    (show WShape.has [] (.bool true) .bool = true by first | rfl | decide | simp [WShape.has, WShape.arms, WShape.armsAll])
    (show (WTm.eq .res (.lit (.bool true))).value [] { args := args, res := some (.bool true), after := args } = some (.bool (true == true)) from w_eq_bool (w_res rfl) w_lit) rfl

/-! ### the attachment: holds_open's last premise (the goal 'hc' behind k_head) from a wpAny of the law's body -/

/-- the same from a codeAny of the CALL (for a layer whose function contracts speak of calls) -/
theorem attach_call {l : OpenLaw} {n : Nat} {q : Program} {loose : List Str} {XP : (Str → Option Value) → Heap → Prop} {YP : World → Heap → Prop} {d : DefRec}
    (hn : l.most = some n) (hdf : d.params.defaults = [])
    (call : ∀ (w : World) (s₀ s₁ : Shared) (mg mb : Str → Option Value) (fa : Addr) (o : Obj) (pm cd doc : Value) (a : Addr) (vs : List Value) (ns : List Int),
      Ground q loose [] XP w s₀ mg mb s₁.heap → YP w s₁.heap →
      s₁.heap.get? fa = some o → o.data = .func (docDef d.name d.params d.body d.scope pm cd doc) → s₁.heap.CodeRec cd d.name → mg d.name = some (.ref fa) →
      s₁.heap.get? a = some { cls := .type "list", data := .seq vs.toArray } → IntsAre vs ns → ns.length ≤ n → s₁.gens = #[] →
      codeAny (model l.prog w) callerA (.call (.ref fa) ⟨[.ref a], []⟩) (fun r s' => r = .ok (.ret (.bool true)) ∧ OldK s₁.heap s'.heap ∧ s'.os = s₁.os ∧ AllBare s'.gens) s₁) :
    WalkO q loose XP YP l.row.toRowW d [] (fun f vs => PySem.call f vs) := by
  intro w s₀ s₁ mg mb G Y fa o pm cd doc dV kV ho hd hcd hD hmg hg args vals as hpre hlay hrd hwl hlo
  obtain rfl : dV = .none := Dflts.none hD hdf
  obtain rfl : kV = .none := Dflts.noKw hD
  obtain ⟨a, vs, ns, rfl, rfl, hobj, hints, hlen⟩ := script_of hn hpre hwl
  refine enter_call (codeAny_mono (call w s₀ s₁ mg mb fa o pm cd doc a vs ns G Y ho (fd_plain hd) hcd hmg hobj hints hlen hg) fun r s' hq => ?_)
  obtain ⟨rfl, h2, h3, h4⟩ := hq
  exact ⟨.inl ⟨.bool true, .bool true, [], rfl, fun _ => rfl, .bool true, post_true l _, fun _ => ⟨List.Pairwise.nil, fun _ hm => (nomatch hm)⟩⟩, h2, h3, h4⟩


/-! ### rules over ANY heap (no ledger) from facts about the written part K: the library's own take a ledger (News) for what they write -/
section
variable {prog : Program} {w : World} {A : Around} {E : Value → Shared → Prop} {s : Shared} {K : Frag}





/-! the whole heap as the ledger: makes every rule that writes through a ledger a rule over any heap -/
def noObjs (h : Heap) : Heap := { h with objs := #[] }
def ledger (h : Heap) (L d : Addr) : List (Addr × Obj) := (List.range h.objs.size).filterMap fun a => if a = L ∨ a = d then none else (h.get? a).map fun o => (a, o)

end
end Att

namespace L2
open PySem PySem.Spec PyProof.Rows

theorem vals_ints : ∀ {vs : List Value} {ns : List Int}, IntsAre vs ns → Vals (ns.map V.int) vs
  | _, _, .nil => .nil
  | _, _, .cons n t h => .cons ⟨t, rfl⟩ (vals_ints h)

/-- nothing is tracked but the script, known to the object (or it is an object of the module) -/
def Only (H : Hp) : Prop := ∀ b, H b = none ∨ ∃ o xs, H b = some (.frz o (.lst xs))

/-- THE HEAD: the law's promise, at the heap behind the top. F, the promise of the law's def, may use that base is part of the heap (so K.In base, base.Ns mainGlobals mg stand in Mod) -/
theorem law_call {P : Program} {w : World} {K : PySem.W.Frag} {mg mb : Str → Option Value} {CX : CXT} {k : Nat} {fa a : Addr} {fd : FuncData} {x : Str} {sp : Sp} {s₁ : Shared} {vs : List Value} {ns : List Int}
    (KX : K.In s₁.heap) (hns : s₁.heap.Ns mainGlobals mg) (hb : s₁.heap.Ns builtinsNs mb) (hbb : ∀ x : Str, x ≠ "__name__" → mb x = bootBuiltins x) (hlim : s₁.heap.NoLimit) (hg : s₁.gens = #[])
    (ha : s₁.heap.get? a = some { cls := .type "list", data := .seq vs.toArray }) (hi : IntsAre vs ns) (hl : ns.length ≤ sizeLine) (hr : Room k callerA)
    (F : ∀ base : Heap, K.In base → base.Ns mainGlobals mg → FnOk P w K mg base CX k fa fd [x] sp) (hbind : ∀ (s : Shared) (u : Value), BindsTo s fd ⟨[u], []⟩ [(x, u)])
    (hsp : ∀ H : Hp, Only H → SqL K H a (ns.map V.int) → sp [.ref a] H (fun v _ => v = .bl true) fun _ _ _ => False)
    (hCX : ∀ H e s', CX [] H s₁ (fun _ _ _ => False) e s' → False) :
    codeAny (model P w) callerA (.call (.ref fa) ⟨[.ref a], []⟩) (fun r s' => r = .ok (.ret (.bool true)) ∧ OldK s₁.heap s'.heap ∧ s'.os = s₁.os ∧ AllBare s'.gens) s₁ := by
  have rv := vals_ints hi
  have lenV := hi.length
  -- from an abstract heap in which nothing but the script may be tracked
  have core : ∀ H : Hp, Only H → SqL K H a (ns.map V.int) → HOk P w H s₁.heap → (∀ b, H b ≠ none → b = a) → (H a ≠ none → K.lookup a = none) →
      codeAny (model P w) callerA (.call (.ref fa) ⟨[.ref a], []⟩) (fun r s' => r = .ok (.ret (.bool true)) ∧ OldK s₁.heap s'.heap ∧ s'.os = s₁.os ∧ AllBare s'.gens) s₁ := by
    intro H hO hS hok hA hK
    have base_of : ∀ {b : Addr} {o : Obj}, s₁.heap.get? b = some o → H b = none → (hidT s₁.heap H).get? b = some o := fun e n => hidT_get e n
    have noA : ∀ {b : Addr} {o : Obj} {es : Array DictEntry} {ep : Nat}, s₁.heap.get? b = some o → o.data = .dict es ep → H b = none := fun {b o es ep} e d => by
      cases q : H b with
      | none => rfl
      | some u =>
        have e' : b = a := hA b (by rw [q]; simp)
        subst e'
        rw [ha] at e; cases e
        have d' : Data.seq vs.toArray _ = Data.dict es ep := d
        cases d'
    have nsK : ∀ {b : Addr} {m : Str → Option Value}, s₁.heap.Ns b m → (hidT s₁.heap H).Ns b m := fun {b m} ⟨o, es, ep, e, d, r⟩ => ⟨o, es, ep, base_of e (noA e d), d, r⟩
    have hKb : K.In (hidT s₁.heap H) := fun b o e => base_of (KX b o e) (by
      cases q : H b with
      | none => rfl
      | some u =>
        have e' : b = a := hA b (by rw [q]; simp)
        subst e'
        rw [hK (by rw [q]; simp)] at e; cases e)
    have hM : Mod K mg (hidT s₁.heap H) := ⟨hKb, nsK hns, ⟨mb, nsK hb, hbb⟩, let ⟨mc, h1, h2⟩ := hlim; ⟨mc, nsK h1, h2⟩⟩
    have e0 : Env0 P w K mg (hidT s₁.heap H) callerA [] s₁ H := ⟨rfl, hM, fun b o e => of_hidT e, Nat.le_of_eq (hidT_size _ _), trivial, fun b hb => absurd (show b ∈ ([] : List Addr) from hb) (by simp), hok, .of_eq hg⟩
    refine codeAny_mono ((F _ hKb (nsK hns)).run callerA [] s₁ H ⟨[.ref a], []⟩ [.ref a] [.ref a] _ _ hr e0 (hbind s₁ (.ref a)) (.cons rfl .nil) (hsp H hO hS)) fun r s' h => ?_
    cases r with
    | error e => exact (hCX H e s' h).elim
    | ok fl =>
      cases fl with
      | next => exact False.elim h
      | brk => exact False.elim h
      | cont => exact False.elim h
      | ret u =>
        obtain ⟨v, H', os, bare, un, hok', r', q⟩ := h
        have q' : v = .bl true := q
        subst q'
        obtain rfl : u = Value.bool true := r'
        refine ⟨rfl, OldK.of_keep fun b o e => ?_, os, bare⟩
        cases q : H b with
        | none => exact un.keep b o e q (by intro z; exact absurd (show b ∈ ([] : List Addr) from z) (by simp)) (by simp)
        | some u =>
          rcases hO b with z | ⟨ob, xs, z⟩
          · rw [q] at z; cases z
          · have z2 := un.frzs b ob _ z
            obtain ⟨e1, _⟩ := hok b _ z
            obtain ⟨e2, _⟩ := hok' b _ z2
            rw [e] at e1; cases e1
            exact e2
  cases hk : K.lookup a with
  | some o =>
    -- the script is one of the module's own objects
    have e := KX a o hk
    rw [ha] at e
    cases e
    refine core (fun _ => none) (fun _ => .inl rfl) (.inr ⟨_, vs.toArray, _, hk, rfl, rfl, rfl, by rw [List.size_toArray, lenV]; exact hl, by simpa using rv⟩) (fun b u z => by have z' : (none : Option HO) = some u := z; cases z') (fun b z => absurd rfl z) fun z => absurd rfl z
  | none =>
    refine core (fun b => if b = a then some (.frz { cls := .type "list", data := .seq vs.toArray } (.lst (ns.map V.int))) else none) (fun b => ?_) (.inl (.inr ⟨{ cls := .type "list", data := .seq vs.toArray }, if_pos rfl⟩)) (fun b u z => ?_) (fun b z => ?_) fun _ => hk
    · by_cases hb : b = a
      · exact .inr ⟨_, _, if_pos hb⟩
      · exact .inl (if_neg hb)
    · by_cases hb : b = a
      · have z' := (if_pos hb).symm.trans z
        cases z'
        subst hb
        exact ⟨ha, by rw [List.length_map]; exact hl, vs, _, rv, ha⟩
      · have z' := (if_neg hb).symm.trans z
        cases z'
    · by_cases hb : b = a
      · exact hb
      · exact absurd (if_neg hb) z
end L2

namespace L2
open PySem PySem.Spec PyProof.Rows

abbrev KOf {K : PySem.W.Frag} {h : Heap} (_ : K.In h) : PySem.W.Frag := K

/-- the goal that k_head leaves (case hc), from the law's promise. F gives the function object fd (K's own) once, then the promise over every base -/
theorem walk_of {l : PySem.W.OpenLaw} {n k : Nat} {q : Program} {loose : List Str} {XP : (Str → Option Value) → Heap → Prop} {YP : World → Heap → Prop} {d : DefRec} {K : Params → PySem.W.Frag} {CX : World → CXT} {sp : World → Sp} {x : Str}
    (hn : l.most = some n) (hn2 : n ≤ sizeLine) (hdf : d.params.defaults = []) (hr : Room k callerA)
    (hY : ∀ (w : World) (h : Heap), YP w h → (K w.params).In h)
    (F : ∀ (w : World) (mg : Str → Option Value) (fa : Addr) (h : Heap), (K w.params).In h → h.Ns mainGlobals mg → mg d.name = some (.ref fa) →
      ∃ fd : FuncData, (∀ (s : Shared) (u : Value), BindsTo s fd ⟨[u], []⟩ [(x, u)]) ∧
        ∀ base : Heap, (K w.params).In base → base.Ns mainGlobals mg → FnOk l.prog w (K w.params) mg base (CX w) k fa fd [x] (sp w))
    (hsp : ∀ (w : World) (H : Hp) (a : Addr) (ns : List Int), ns.length ≤ n → Only H → SqL (K w.params) H a (ns.map V.int) → sp w [.ref a] H (fun v _ => v = .bl true) fun _ _ _ => False)
    (hCX : ∀ (w : World) (H : Hp) (s : Shared) (e : Value) (s' : Shared), CX w [] H s (fun _ _ _ => False) e s' → False) :
    PySem.W.WalkO q loose XP YP l.row.toRowW d [] (fun f vs => PySem.call f vs) := by
  refine Att.attach_call hn hdf fun w s₀ s₁ mg mb fa o pm cd doc a vs ns G Y ho hd hcd hmg hobj hints hlen hg => ?_
  have KX := hY w _ Y
  obtain ⟨fd, hb, hF⟩ := F w mg fa _ KX G.T.g hmg
  exact law_call KX G.T.g G.T.b G.T.builtins G.T.nolimit hg hobj hints (Nat.le_trans hlen hn2) hr hF hb (fun H hO hS => hsp w H a ns hlen hO hS) fun H e s' => hCX w H s₁ e s'
end L2

/- THE LAST THEOREM (shape; LID, My.* are yours):
   My.Adr: a structure of the addresses that your layer names (classes, functions); My.Txt K t: a structure (Prop) of the equations over K;
   My.txt_mk : {K} {implicit addresses ..} (e1 : nsIn K mainGlobals "law" = some (some (.ref f))) (e2 : K.lookup f = some ⟨oc, od, .func (fnOf "law" "law" params body scope dV kV doc pm an cdv ct), sl⟩) (e3 : codeIn K cdv "law" = true) .. : ∃ t, My.Txt K t

set_option maxRecDepth 100000 in
set_option maxHeartbeats 0 in
theorem PySem.Challenge.cw_LID_holds : PySem.Challenge.rw_LID.Holds := by
  w_on; o_law; k_head; (case hw => w_witness2)
  k_fill
  refine L2.walk_of (l := PySem.Challenge.rw_LID) (n := 63) (k := 40) (x := "script") (CX := fun w => ..) (sp := fun _ => My.sp_law) rfl (by decide) rfl ⟨rfl, by decide, by decide⟩ (fun w h Y => PySem.W.kIn_of Y) ?F ?S ?C
  case F =>
    intro w mg fa h KX G hmg
    have T : ∃ t, My.Txt (L2.KOf KX) t := by
      dsimp only [L2.KOf]                          -- K must stand as «<heap const> w.params» for k_is
      refine' My.txt_mk ?e1 ?e2 ?e3 ..
      (case e1 => PySem.W.k_is)                    -- in the order: a name -> its address -> its object -> its parts
      (case e2 => PySem.W.k_is)
      ..
    obtain ⟨t, T⟩ := T
    have e0 := hmg.symm.trans (PySem.W.mg_of KX G T.law)
    cases e0                                       -- fa is the law's own address
    exact ⟨_, fun s u => .of_eq rfl, fun base kb nb => My.law_fn T kb nb⟩     -- if «.of_eq rfl» comes too early: refine' ⟨_, ?b, fun base kb nb => My.law_fn T kb nb⟩; exact fun s u => .of_eq rfl
  case S => exact fun w H a ns hl hO hS => ..
  case C => exact ..
(the tactic k_is has no namespace: write k_is) -/

/-! SHORT WORDS over the layer: a def of the text, its body, what a loop and a test want. -/
namespace L2
open PySem PySem.Spec PyProof.Rows

/-! ### the text by places -/
/-- the j-th statement of a class's body -/
def inClass (s : Stmt) (j : Nat) : Stmt := match s with
  | .ClassDef _ _ _ body _ _ _ _ _ _ _ => body.getD j (.Pass ⟨0, 0, 0, 0⟩)
  | _ => .Pass ⟨0, 0, 0, 0⟩
def defArgs (s : Stmt) : Arguments := match s with
  | .FunctionDef _ a _ _ _ _ _ _ _ _ => a
  | _ => { posonlyargs := [], args := [], vararg := none, kwonlyargs := [], kw_defaults := [], kwarg := none, defaults := [] }
def defBody (s : Stmt) : List Stmt := match s with
  | .FunctionDef _ _ b _ _ _ _ _ _ _ => b
  | _ => []
def defScope (s : Stmt) : Scope := match s with
  | .FunctionDef _ _ _ _ _ _ sc _ _ _ => sc
  | _ => { kind := .function, names := [], isGenerator := false, isCoroutine := false }

/-! ### no exception leaves a def -/
abbrev CX0 : CXT := fun _ _ _ _ _ _ => False
abbrev E0 : XK := fun _ _ _ => False
theorem pass0 {X : Cx} : Passes CX0 X E0 := fun _ _ _ _ _ _ _ h => h.elim

/-! ### a def (or method) of the text as it stands behind the top -/
structure Fun (K : PySem.W.Frag) (x qual : Str) (st : Stmt) (f : Addr) (fd : FuncData) : Prop where
  ex : ∃ (oc : Value) (od : Option Addr) (kV doc pm : Value) (an : Option Addr) (cdv ct : Value) (osl : Array (Option Value)),
    fd = PySem.W.fnOf x qual (defArgs st) (defBody st) (defScope st) .none kV doc pm an cdv ct ∧ K.lookup f = some ⟨oc, od, .func fd, osl⟩ ∧ PySem.W.codeIn K cdv qual = true
  kp : PySem.W.keepIn K (.ref f) = true
section
variable {P : Program} {w : World} {K : PySem.W.Frag} {mg : Str → Option Value} {base : Heap}
/-- THE RULE for a def: its body as a term of rules, and the reading of that term -/
theorem Fun.ok {x qual : Str} {st : Stmt} {f : Addr} {fd : FuncData} {N ps : List Str} {k : Nat} {sp : Sp} (F : Fun K x qual st f fd) (S : FnScope N ps (defScope st)) (len : ∀ vs H Q E, sp vs H Q E → vs.length = ps.length)
    (hbody : ∀ (cdv : Value) (A : Around) (outer : List Env) (s : Shared) (H : Hp) (vs : List V) (Q : VK) (E : XK), Room k (A.deeper (envOfC qual (defScope st) s.heap.objs.size f cdv)) → sp vs H Q E →
      ∃ t, PSs (cxOf CX0 P w K mg base N qual (defScope st) f cdv A outer s H E).nox (defBody st) t ∧ t { nx := fun _ H' => Q .non H', rt := Q } (start N vs) H) : FnOk P w K mg base CX0 (k + 1) f fd ps sp := by
  obtain ⟨oc, od, kV, doc, pm, an, cdv, ct, osl, rfl, lk, hcd⟩ := F.ex
  refine fn_of lk hcd S len fun A outer s H vs Q E hr hsp => ?_
  obtain ⟨t, h, q⟩ := hbody cdv A outer s H vs Q E hr hsp
  exact ⟨t, h.nox, q⟩
/-- how its arguments bind (no defaults): h is «fun _ _ _ _ _ _ us hl => match us, hl with | [_, _], _ => rfl», one _ a parameter -/
theorem Fun.binds {x qual : Str} {st : Stmt} {f : Addr} {fd : FuncData} {ps : List Str} (F : Fun K x qual st f fd)
    (h : ∀ (kV doc pm : Value) (an : Option Addr) (cdv ct : Value) (us : List Value), us.length = ps.length → bindArgs (PySem.W.fnOf x qual (defArgs st) (defBody st) (defScope st) .none kV doc pm an cdv ct) ⟨us, []⟩ = pure (ps.zip us)) : Binds K fd ps [] := by
  obtain ⟨oc, od, kV, doc, pm, an, cdv, ct, osl, rfl, lk, hcd⟩ := F.ex
  exact .all (h kV doc pm an cdv ct)
theorem fun_mk {x qual : Str} {st : Stmt} {f : Addr} {oc : Value} {od an : Option Addr} {osl : Array (Option Value)} {kV doc pm cdv ct : Value} (l : K.lookup f = some ⟨oc, od, .func (PySem.W.fnOf x qual (defArgs st) (defBody st) (defScope st) .none kV doc pm an cdv ct), osl⟩)
    (c : PySem.W.codeIn K cdv qual = true) (k : PySem.W.keepIn K (.ref f) = true) : Fun K x qual st f (PySem.W.fnOf x qual (defArgs st) (defBody st) (defScope st) .none kV doc pm an cdv ct) := ⟨⟨oc, od, kV, doc, pm, an, cdv, ct, osl, rfl, l, c⟩, k⟩
end
theorem small1000 {n : Nat} (h : n ≤ 1000) : n < sizeLine := Nat.lt_of_le_of_lt h (by decide)

/-! ### expressions in short: the name that stands in the i-th slot -/
section
variable {X : Cx}
theorem pv (i : Nat) {x : Str} {pos : Pos} (hN : X.N[i]? = some x := by rfl) (hv : Vis X.env.scope x := by first | exact Or.inl rfl | exact Or.inr (Or.inl rfl) | exact Or.inr (Or.inr rfl)) (hd : (x == ("__debug__" : Str)) = false := by decide)
    (hcd : (x == ("__classdict__" : Str)) = false := by decide) : PE X (.Name x pos) (tVar i) := pe_var hN hv hd hcd
end

/-! ### tests -/
theorem iteF {A B : Prop} (h : B) : if false = true then A else B := by
  rw [if_neg Bool.false_ne_true]
  exact h
theorem iteT {A B : Prop} (h : A) : if true = true then A else B := by
  rw [if_pos rfl]
  exact h
theorem iteNS {c A B : Prop} [Decidable c] (hc : c) (h : B) : if (!decide c) = true then A else B := by
  rw [decide_eq_true hc]
  exact iteF h

/-! ### heaps -/
/-- all that was tracked is as it was -/
def Same (H H' : Hp) : Prop := ∀ b o, H b = some o → H' b = some o
theorem Same.trans {H H1 H2 : Hp} (a : Same H H1) (b : Same H1 H2) : Same H H2 := fun c o h => b c o (a c o h)
theorem Same.free {H H' : Hp} (e : Same H H') {l : Addr} (h : H' l = Option.none) : H l = Option.none := by
  cases q : H l with
  | none => rfl
  | some o =>
    rw [e l o q] at h
    cases h
theorem Same.seq {K : PySem.W.Frag} {H H' : Hp} {a : Addr} {xs : List V} (e : Same H H') (h : SqL K H a xs) : SqL K H' a xs := by
  rcases h with (h | ⟨o, h⟩) | h
  · exact .inl (.inl (e _ _ h))
  · exact .inl (.inr ⟨o, e _ _ h⟩)
  · exact .inr h

/-! ### a dict's pairs: keys that differ -/
section
variable {κ : Type} [DecidableEq κ]
end
end L2
namespace L2
open PySem PySem.Spec PyProof.Rows
/-! OWN RULES over the layer: sorted, isinstance, == of data, calls by name -/
section
variable {X : Cx}
theorem call_sorted : CallR X (.builtin "sorted") (fun xs H Q => ∃ (p : Addr) (ns : List Int), xs = [.ref p] ∧ SqL X.K H p (ns.map V.int) ∧ ns.length < 64 ∧
    ∀ (l : Addr) (ns' : List Int), H l = none → ns'.Perm ns → ns'.Pairwise (· ≤ ·) → Q (.ref l) (upd H l (.lst (ns'.map V.int)))) := by
  intro pins s σ H xs us Q I r h
  obtain ⟨p, ns, rfl, hS, h64, k⟩ := h
  obtain ⟨u, rfl, rx⟩ := vals1 r
  cases rx
  obtain ⟨its, rI, pl, hz⟩ := I.list hS
  have hI : IntsAre its ns := intsAre_of rI
  have hlen := rI.length
  rw [List.length_map] at hlen
  refine sorted_ints pl.isList hI (by omega) fun out ns' a1 a2 a3 => ?_
  obtain ⟨e, he⟩ := sortedAll_at s.heap its out
  have hl' : ns'.length = ns.length := a2.length_eq
  have hz' : (ns'.map V.int).length ≤ sizeLine := by rw [List.length_map, hl']; exact Nat.le_of_lt (small1000 (by omega))
  have he' : (sortedAll s.heap its out).get? (s.heap.objs.size + 1) = some { cls := .type "list", data := .seq out.toList.toArray e } := by rw [Array.toArray_toList]; exact he
  exact ⟨.ref (s.heap.objs.size + 1), _, I.laid (t' := s.toks) (fun b o e => sortedAll_old e) (Nat.le_succ _) (show ObjOk X.prog X.w _ _ _ (.lst (ns'.map V.int)) from ⟨hz', out.toList, e, vals_ints a1, he'⟩), rfl, k _ _ (I.hok.fresh (Nat.le_succ _)) a2 a3⟩
/-- isinstance(x, T), T a built-in type -/
theorem call_isinst : CallR X (.builtin "isinstance") (fun xs H Q => ∃ x T t b, xs = [x, .ty T] ∧ TyOf X.K H x t ∧ PySem.W.kitOne X.K t (.type T) = some b ∧ Q (.bl b) H) := by
  intro pins s σ H xs us Q I r h
  obtain ⟨x, T, t, b, rfl, ty, e, q⟩ := h
  obtain ⟨u, w', rfl, r1, r2⟩ := vals2 r
  cases (show w' = Value.type T from r2)
  exact isinst_ok I r1 ty e fun tk => ⟨.bl b, H, I.tok _, rfl, q⟩
end
/-! ### == and != of data -/
mutual
inductive DV (K : PySem.W.Frag) (H : Hp) : V → PyData → Prop
  | non : DV K H .non .none
  | bl (b : Bool) : DV K H (.bl b) (.bool b)
  | int (i : Int) : DV K H (.int i) (.int i)
  | str (x : Str) : DV K H (.str x) (.str x)
  | lst {a : Addr} {xs : List V} {ds : List PyData} : SqL K H a xs → DVs K H xs ds → DV K H (.ref a) (.list ds)
  | tup {a : Addr} {xs : List V} {ds : List PyData} : SqT K H a xs → DVs K H xs ds → DV K H (.ref a) (.tuple ds)
inductive DVs (K : PySem.W.Frag) (H : Hp) : List V → List PyData → Prop
  | nil : DVs K H [] []
  | cons {v : V} {d : PyData} {vs : List V} {ds : List PyData} : DV K H v d → DVs K H vs ds → DVs K H (v :: vs) (d :: ds)
end
section
variable {X : Cx} {pins : List (Addr × Obj)} {σ : St} {H : Hp} {s : Shared}
mutual
theorem Inv.reads (I : Inv X pins σ H s) : ∀ {v : V} {d : PyData} {u : Value}, DV X.K H v d → RelV v u → ∃ as, Reads s.heap u d as
  | _, _, _, .non, r => by cases (show _ = Value.none from r); exact ⟨_, .none⟩
  | _, _, _, .bl b, r => by cases (show _ = Value.bool b from r); exact ⟨_, .bool b⟩
  | _, _, _, .int i, r => by obtain ⟨t, q⟩ := (show ∃ t, _ = Value.int i t from r); cases q; exact ⟨_, .int i t⟩
  | _, _, _, .str x, r => by obtain ⟨t, q⟩ := (show ∃ t, _ = Value.str x t from r); cases q; exact ⟨_, .str x t⟩
  | _, _, _, .lst (a := a) hS hd, r => by
    cases (show _ = Value.ref a from r)
    obtain ⟨its, rv, pl, hz⟩ := I.list hS
    obtain ⟨o, ho, hc, n, hdt⟩ := pl.isList
    obtain ⟨as, ra⟩ := Inv.readsAll I hd rv
    exact ⟨_, Reads.list ho hc hdt (by rw [List.toList_toArray]; exact ra)⟩
  | _, _, _, .tup (a := a) hS hd, r => by
    cases (show _ = Value.ref a from r)
    obtain ⟨its, rv, pl, hz⟩ := I.tuple hS
    obtain ⟨o, ho, hc, n, hdt⟩ := pl
    obtain ⟨as, ra⟩ := Inv.readsAll I hd rv
    exact ⟨_, Reads.tuple ho hc hdt (by rw [List.toList_toArray]; exact ra)⟩
theorem Inv.readsAll (I : Inv X pins σ H s) : ∀ {vs : List V} {ds : List PyData} {us : List Value}, DVs X.K H vs ds → Vals vs us → ∃ as, ReadsAll s.heap us ds as
  | _, _, _, .nil, r => by cases r; exact ⟨_, .nil⟩
  | _, _, _, .cons h hr, r => by
    cases r with
    | cons r1 r2 =>
      obtain ⟨as, a⟩ := Inv.reads I h r1
      obtain ⟨bs, b⟩ := Inv.readsAll I hr r2
      exact ⟨_, .cons a b⟩
end
end
def rEqD (K : PySem.W.Frag) : R2 := fun x y H Q => ∃ dx dy, DV K H x dx ∧ DV K H y dy ∧ SeqAt.shaped dx = true ∧ SeqAt.shaped dy = true ∧ Q (.bl (PyData.eqv dx dy)) H
def rNeD (K : PySem.W.Frag) : R2 := fun x y H Q => ∃ dx dy, DV K H x dx ∧ DV K H y dy ∧ SeqAt.shaped dx = true ∧ SeqAt.shaped dy = true ∧ Q (.bl (!PyData.eqv dx dy)) H
section
variable {X : Cx}
end
/-! ### the data that our laws compare -/
def pairD (p : Int × Int) : PyData := .tuple [.int p.1, .int p.2]
/-- a list of pairs: its items are tuples -/
inductive Tups (H : Hp) : List V → List (Int × Int) → Prop
  | nil : Tups H [] []
  | cons {t : Addr} {p : Int × Int} {vs : List V} {ps : List (Int × Int)} : H t = some (.tup [.int p.1, .int p.2]) → Tups H vs ps → Tups H (.ref t :: vs) (p :: ps)
theorem Tups.same {H H' : Hp} (e : Same H H') : ∀ {vs : List V} {ps : List (Int × Int)}, Tups H vs ps → Tups H' vs ps
  | _, _, .nil => .nil
  | _, _, .cons h r => .cons (e _ _ h) (r.same e)
theorem Tups.length {H : Hp} : ∀ {vs : List V} {ps : List (Int × Int)}, Tups H vs ps → vs.length = ps.length
  | _, _, .nil => rfl
  | _, _, .cons _ r => congrArg (· + 1) r.length
theorem Tups.append {H : Hp} : ∀ {vs ws : List V} {ps qs : List (Int × Int)}, Tups H vs ps → Tups H ws qs → Tups H (vs ++ ws) (ps ++ qs)
  | _, _, _, _, .nil, k => k
  | _, _, _, _, .cons h r, k => .cons h (r.append k)
theorem Tups.get {H : Hp} : ∀ {vs : List V} {ps : List (Int × Int)} {i : Nat} {x : V}, Tups H vs ps → vs[i]? = some x → ∃ t p, x = .ref t ∧ ps[i]? = some p ∧ H t = some (.tup [.int p.1, .int p.2])
  | _, _, i, x, .nil, e => by simp at e
  | _, _, 0, x, .cons h r, e => by cases e; exact ⟨_, _, rfl, rfl, h⟩
  | _, _, i + 1, x, .cons h r, e => r.get (i := i) (by simpa using e)
/-! ### heaps -/
theorem same_new {H : Hp} {p : Addr} (h : H p = none) (o : HO) : Same H (upd H p o) := fun b u q => by rw [upd_ne (ne_of_none q h)]; exact q
/-- all that was tracked but at a is as it was -/
def SameBut (H H' : Hp) (a : Addr) : Prop := ∀ b o, H b = some o → b ≠ a → H' b = some o
/-! ### tests -/
theorem iteD {c A B : Prop} [Decidable c] (hc : c) (h : A) : if decide c = true then A else B := by rw [if_pos (decide_eq_true hc)]; exact h
theorem iteDn {c A B : Prop} [Decidable c] (hc : ¬ c) (h : B) : if decide c = true then A else B := by rw [if_neg (by rw [decide_eq_false hc]; exact Bool.false_ne_true)]; exact h
theorem ite2D {c A B : Prop} [Decidable c] (h1 : c → A) (h2 : ¬ c → B) : if decide c = true then A else B := by
  by_cases hc : c
  · exact iteD hc (h1 hc)
  · exact iteDn hc (h2 hc)
theorem ite2N {c A B : Prop} [Decidable c] (h1 : ¬ c → A) (h2 : c → B) : if (!decide c) = true then A else B := by
  by_cases hc : c
  · exact iteNS hc (h2 hc)
  · rw [if_pos (by rw [decide_eq_false hc]; rfl)]; exact h1 hc
/-! ### defs by their names -/
structure Cal (P : Program) (w : World) (K : PySem.W.Frag) (mg : Str → Option Value) (base : Heap) (CX : CXT) (k : Nat) (x : Str) (ps : List Str) (sp : Sp) : Prop where
  ex : ∃ (f : Addr) (fd : FuncData), FnOk P w K mg base CX k f fd ps sp ∧ Binds K fd ps [] ∧ mg x = some (.ref f) ∧ PySem.W.keepIn K (.ref f) = true ∧ ∃ (oc : Value) (od : Option Addr) (osl : Array (Option Value)), K.lookup f = some ⟨oc, od, .func fd, osl⟩
structure Df (K : PySem.W.Frag) (mg : Str → Option Value) (x : Str) (ps : List Str) (st : Stmt) : Prop where
  ex : ∃ (f : Addr) (fd : FuncData), Fun K x x st f fd ∧ Binds K fd ps [] ∧ mg x = some (.ref f)
section
variable {P : Program} {w : World} {K : PySem.W.Frag} {mg : Str → Option Value} {base : Heap} {CX : CXT} {x : Str} {ps : List Str} {st : Stmt} {sp : Sp} {N : List Str} {k : Nat}
theorem Df.ok (D : Df K mg x ps st) (S : FnScope N ps (defScope st)) (len : ∀ vs H Q E, sp vs H Q E → vs.length = ps.length)
    (hbody : ∀ (f : Addr) (cdv : Value) (A : Around) (outer : List Env) (s : Shared) (H : Hp) (vs : List V) (Q : VK) (E : XK), Room k (A.deeper (envOfC x (defScope st) s.heap.objs.size f cdv)) → sp vs H Q E →
      ∃ t, PSs (cxOf CX0 P w K mg base N x (defScope st) f cdv A outer s H E).nox (defBody st) t ∧ t { nx := fun _ H' => Q .non H', rt := Q } (start N vs) H) : Cal P w K mg base CX0 (k + 1) x ps sp := by
  obtain ⟨f, fd, F, b, m⟩ := D.ex
  obtain ⟨oc, od, kV, doc, pm, an, cdv, ct, osl, e1, e2, e3⟩ := id F.ex
  exact ⟨f, fd, F.ok S len (fun cdv A outer s H vs Q E hr h => hbody f cdv A outer s H vs Q E hr h), b, m, F.kp, oc, od, osl, e2⟩
end
section
variable {X : Cx} {k : Nat} {x : Str} {ps : List Str} {sp : Sp} {e : Expr} {es : List Expr} {t : TA} {p pos : Pos}
theorem pe_calf (C : Cal X.prog X.w X.K X.mg X.base CX0 k x ps sp) (hr : Room k X.A) (hg : Gl X x) (ha : PA X (e :: es) t) (hdb : (x == ("__debug__" : Str)) = false := by decide)
    (he : starEach (e :: es) X.env = (false, eval e X.env) :: starEach es X.env := by rfl) (hpl : (backTo pos (starEach es X.env)).any (·.1) = false := by rfl) : PE X (.Call (.Name x p) (e :: es) [] pos) (tCall sp [] E0 t) := by
  obtain ⟨f, fd, F, b, m, kk, _⟩ := C.ex
  exact pe_call F hr hg m kk b .nil pass0 ha hdb he hpl
end
/-! ### a statement with its join said -/
theorem ps_cut {X : Cx} {st : Stmt} {t : TS} (h : PS X st t) : PS X st (fun D σ H => ∃ J : St → Hp → Prop, t { D with nx := J } σ H ∧ ∀ σ' H', J σ' H' → D.nx σ' H') := by
  intro pins s σ H D I hh
  obtain ⟨J, h1, h2⟩ := hh
  refine thn (h pins s σ H _ I h1) fun f s' q => ?_
  cases f with
  | next => obtain ⟨σ', H', I', j⟩ := q; exact ⟨σ', H', I', h2 _ _ j⟩
  | brk => exact q
  | cont => exact q
  | ret u => exact q
theorem map_get {os : List Int} {i : Nat} {x : V} (h : (os.map V.int)[i]? = some x) : ∃ z, x = .int z ∧ os[i]? = some z := by
  rw [List.getElem?_map] at h
  cases e : os[i]? with
  | none => rw [e] at h; cases h
  | some z => rw [e] at h; exact ⟨z, (Option.some.inj h).symm, rfl⟩
/-! ### a list of pairs that grows -/
theorem Tups.upd {H : Hp} {l : Addr} {xs ys : List V} (e : H l = some (.lst xs)) : ∀ {vs : List V} {ps : List (Int × Int)}, Tups H vs ps → Tups (upd H l (.lst ys)) vs ps
  | _, _, .nil => .nil
  | _, _, .cons h r => .cons (by rw [upd_ne (ne_of h e (by intro z; cases z))]; exact h) (r.upd e)
structure Grow (H H' : Hp) (l : Addr) (vs : List V) (ps : List (Int × Int)) : Prop where
  same : Same H H'
  at_ : H' l = some (.lst vs)
  tups : Tups H' vs ps
theorem Grow.tup {H H1 : Hp} {l t : Addr} {vs : List V} {ps : List (Int × Int)} {o : HO} (G : Grow H H1 l vs ps) (ht : H1 t = none) : Grow H (upd H1 t o) l vs ps :=
  ⟨G.same.trans (same_new ht _), same_new ht _ _ _ G.at_, G.tups.same (same_new ht _)⟩
theorem Grow.push {H H1 : Hp} {l t : Addr} {vs : List V} {ps : List (Int × Int)} {a b : Int} (G : Grow H H1 l vs ps) (hl : H l = none) (ht : H1 t = none) :
    Grow H (upd (upd H1 t (.tup [.int a, .int b])) l (.lst (vs ++ [.ref t]))) l (vs ++ [.ref t]) (ps ++ [(a, b)]) := by
  have G1 : Grow H (upd H1 t (.tup [.int a, .int b])) l vs ps := G.tup ht
  refine ⟨fun c o e => ?_, upd_same, (G1.tups.upd G1.at_).append (.cons ?_ .nil)⟩
  · rw [upd_ne (ne_of_none e hl)]
    exact G1.same c o e
  · rw [upd_ne (ne_of_none G.at_ ht).symm]
    exact upd_same
theorem bb_len : bootBuiltins "len" = some (.builtin "len") := by decide +kernel
theorem bb_isinstance : bootBuiltins "isinstance" = some (.builtin "isinstance") := by decide +kernel
theorem bb_sorted : bootBuiltins "sorted" = some (.builtin "sorted") := by decide +kernel
theorem bb_min : bootBuiltins "min" = some (.builtin "min") := by decide +kernel
theorem bb_int : bootBuiltins "int" = some (.type "int") := by decide +kernel
theorem bb_bool : bootBuiltins "bool" = some (.type "bool") := by decide +kernel
theorem bb_list : bootBuiltins "list" = some (.type "list") := by decide +kernel
theorem bb_zip : bootBuiltins "zip" = some (.type "zip") := by decide +kernel
theorem bb_set : bootBuiltins "set" = some (.type "set") := by decide +kernel
section
variable {X : Cx} {a b c : Expr} {ta tb tc : TT} {pos : Pos}
theorem pt_and2 (ha : PT X a ta) (hb : PT X b tb) : PT X (.BoolOp .And [a, b] pos) (tAnd ta tb) := (pw_and ha (pw_and1 hb)).pt
theorem pt_or2 (ha : PT X a ta) (hb : PT X b tb) : PT X (.BoolOp .Or [a, b] pos) (tOr ta tb) := (pw_or ha (pw_or1 hb)).pt
theorem pt_or3 (ha : PT X a ta) (hb : PT X b tb) (hc : PT X c tc) : PT X (.BoolOp .Or [a, b, c] pos) (tOr ta (tOr tb tc)) := (pw_or ha (pw_or hb (pw_or1 hc))).pt
end
/-! ### the built-in names stand as they are -/
structure Bl (mg : Str → Option Value) : Prop where
  n_len : mg "len" = none
  n_range : mg "range" = none
  n_list : mg "list" = none
  n_sorted : mg "sorted" = none
  n_isinstance : mg "isinstance" = none
  n_int : mg "int" = none
  n_bool : mg "bool" = none
  n_tuple : mg "tuple" = none
  n_dict : mg "dict" = none
  n_sum : mg "sum" = none
  n_max : mg "max" = none
  n_min : mg "min" = none
  n_enumerate : mg "enumerate" = none
  n_zip : mg "zip" = none
  n_set : mg "set" = none
  n_str : mg "str" = none
  n_ValueError : mg "ValueError" = none
/-! ### in, not in over ints -/
theorem all_flat : ∀ os : List Int, (os.map V.int).all flatV = true
  | [] => rfl
  | _ :: r => by rw [List.map_cons, List.all_cons, all_flat r]; rfl
theorem inV_ints (x : Int) : ∀ os : List Int, inV (.int x) (os.map V.int) = decide (x ∈ os)
  | [] => by simp [inV]
  | o :: r => by
    have ih := inV_ints x r
    unfold inV at ih ⊢
    rw [List.map_cons, List.any_cons, ih]
    show ((o == x) || decide (x ∈ r)) = _
    by_cases h : o = x
    · subst h; simp
    · simp [h, Ne.symm h, beq_eq_false_iff_ne.mpr h]
section
variable {X : Cx}
theorem op_in_ints : OpR X (compareOp .In) (fun x y H Q => ∃ (z : Int) (p : Addr) (os : List Int), x = .int z ∧ y = .ref p ∧ SqL X.K H p (os.map V.int) ∧ Q (.bl (decide (z ∈ os))) H) := by
  intro pins s σ H x y v u Q I rx ry h
  obtain ⟨z, p, os, rfl, rfl, hS, q⟩ := h
  refine op_in_seq pins s σ H _ _ v u Q I rx ry ⟨p, _, rfl, .inl hS, rfl, all_flat os, ?_⟩
  rw [inV_ints]
  exact q
end
/-! ### isinstance of built-in types -/
theorem kit_same {K : PySem.W.Frag} (T : String) : PySem.W.kitOne K (.type T) (.type T) = some true := by
  unfold PySem.W.kitOne
  rw [if_pos (by simp)]
theorem kit_int_int {K : PySem.W.Frag} : PySem.W.kitOne K (.type "int") (.type "int") = some true := kit_same _
theorem kit_list_list {K : PySem.W.Frag} : PySem.W.kitOne K (.type "list") (.type "list") = some true := kit_same _
theorem kit_int_bool {K : PySem.W.Frag} : PySem.W.kitOne K (.type "int") (.type "bool") = some false := by
  unfold PySem.W.kitOne
  rw [if_neg (by decide)]
  kernel_rfl
end L2
namespace L2
open PySem PySem.Spec PyProof.Rows
/-! COMPREHENSIONS of lists: one clause, at most one test; nothing raises within -/
/-- the block's context: its own names, the iterator's records fp, the frame around as a caller's -/
abbrev Cx.blk (X : Cx) (scope : Scope) (cl : List (Str × Addr)) (N : List Str) (C : Addr) (fp : List Addr) (pins : List (Addr × Obj)) (s : Shared) (H : Hp) : Cx :=
  { X with N := N, s₀ := s, H₀ := H, env := compEnvC scope cl C X.env, outer := X.stack, ex := fp, fn := fun _ => false, pn := X.pn ++ pins, xe := fun _ _ => False }
structure BlkS (X : Cx) (scope : Scope) (cl : List (Str × Addr)) (N : List Str) : Prop where
  clos : closureFor scope X.env = pure cl
  kind : scope.kind = .function
  nocell : ∀ y ∈ scope.names, y.2 ≠ .cell
  names : ∀ x ∈ scope.names, x.2 = .local → scope.names.lookup x.1 = some .local
  sub : ∀ x c, cl.lookup x = some c → X.env.cells.lookup x = some c
  has : ∀ x, ((relabel scope X.env).names.lookup x = some .cell ∨ (relabel scope X.env).names.lookup x = some .free) → ∃ c, cl.lookup x = some c
/-- what the block sees of the names around it -/
structure FromOuter (X : Cx) (scope : Scope) (cl : List (Str × Addr)) (N : List Str) (σ σc : St) : Prop where
  len : σc.length = N.length
  look : ∀ (j : Nat) (y : Str) (v : V), N[j]? = some y → σc[j]? = some (some v) → ∃ (i : Nat) (c : Addr), X.N[i]? = some y ∧ σ[i]? = some (some v) ∧ Vis X.env.scope y ∧ cl.lookup y = some c ∧
    (X.env.kindOf y = some .cell ∨ X.env.kindOf y = some .free) ∧ ((relabel scope X.env).names.lookup y = some .cell ∨ (relabel scope X.env).names.lookup y = some .free)
theorem FromOuter.none {X : Cx} {scope : Scope} {cl : List (Str × Addr)} {N : List Str} {σ : St} : FromOuter X scope cl N σ (List.replicate N.length Option.none) := by
  refine ⟨List.length_replicate, fun j y v _ h => ?_⟩
  rw [List.getElem?_replicate] at h
  split at h
  · cases h
  · cases h
/-- the tests of a clause -/
def PTs (X : Cx) (ifs : List Expr) (t : TT) : Prop :=
  ∀ (pins : List (Addr × Obj)) (s : Shared) (σ : St) (H : Hp) (Q : Bool → Hp → Prop), Inv X pins σ H s → t σ H Q →
    wpAny (model X.prog X.w) X.A (forIn ifs true fun c r => if r = true then do let ok ← isTrue c X.env (eval c X.env); pure (ForInStep.yield ok) else pure (ForInStep.yield r)) (TP X pins σ Q) X.xe s
def tAlways : TT := fun _ H Q => Q true H
theorem pts_nil {X : Cx} : PTs X [] tAlways := by
  intro pins s σ H Q I h
  rw [List.forIn_nil]
  exact wpAny_pure ⟨H, I, h⟩
/-- [elt for tg in iter if ..]: like a loop; the new list stands at D -/
def tLC (R : St → St → Prop) (wi : TI) (g : TG) (tt : TT) (te : TE) : TE := fun σ H Q => wi σ H fun J H1 => ∀ D, H1 D = none → ∃ σc, R σ σc ∧ ∃ W : Nat → Nat → St → Hp → Prop, (∃ m, W 0 m σc (upd H1 D (.lst []))) ∧
  ∀ i m σ' H', W i m σ' H' → (J.stop i H' ∧ Q (.ref D) H') ∨ (J.go i H' ∧ ∃ N : St → Hp → Prop, (∀ σ2 H2, N σ2 H2 → ∃ m', m' < m ∧ W (i + 1) m' σ2 H2) ∧
    ∀ x H2, J.yld i H' x H2 → g x σ' H2 fun σ3 H3 => tt σ3 H3 fun b H4 => if b = true then te σ3 H4 fun y H5 => ∃ xs, H5 D = some (.lst xs) ∧ xs.length < sizeLine ∧ N σ3 (upd H5 D (.lst (xs ++ [y]))) else N σ3 H4)
theorem comp_loop {prog : Program} {w : World} {A : Around} {R : Result → Shared → Prop} {s : Shared} {elt target iter : Expr} {ifs : List Expr} {scope : Scope} {pos : Pos} {it acc : Value} {env : Env} (I : Nat → Shared → Prop)
    (turn : ∀ n s, I n s → wpAny (model prog w) A (pyNext it) (fun r s₁ => match r with
      | none => R (.ok .next) s₁
      | some v => wpAny (model prog w) A (letOwnedTupleGo target it v) (fun _ s₁' => wpAny (model prog w) A (assign target env v) (fun _ s₂ =>
          wpAny (model prog w) A (forIn ifs true fun c r => if r = true then do let ok ← isTrue c env (eval c env); pure (ForInStep.yield ok) else pure (ForInStep.yield r)) (fun ok s₃ =>
            if ok = true then wpAny (model prog w) A (eval elt env) (fun x s₄ =>
              wpAny (model prog w) A (call (.builtin "list.append") [acc, x]) (fun _ s₅ => ∃ m, m < n ∧ I m s₅) (fun _ _ => False) s₄) (fun _ _ => False) s₃
            else ∃ m, m < n ∧ I m s₃) (fun _ _ => False) s₂) (fun _ _ => False) s₁') (fun _ _ => False) s₁) (fun _ _ => False) s)
    (n : Nat) (h : I n s) : codeAny (model prog w) A (.compLoop (.ListComp elt [⟨target, iter, ifs, 0⟩] scope pos) 0 it acc env) R s := by
  refine codeAny_loop rfl I (fun n s hI => ?_) n h
  show wpAny _ A ((compTurn (.ListComp elt [⟨target, iter, ifs, 0⟩] scope pos) 0 it acc env).onRaise (fun x => do noteFrame x env; theTreesLotGoes x)) _ _ s
  refine wpAny_noted ?_
  rw [compTurn_list]
  refine wpAny_bind (wpAny_standAt (wpAny_bind (wpAny_mono (turn n s hI) (fun r s₁ h₁ => ?_) fun _ _ h' => h'.elim)))
  cases r with
  | none => exact wpAny_pure h₁
  | some v =>
    refine wpAny_bind (wpAny_mono h₁ (fun _ s₁' h₁' => ?_) fun _ _ h' => h'.elim)
    refine wpAny_bind (wpAny_mono h₁' (fun _ s₂ h₂ => wpAny_bind (wpAny_mono h₂ (fun ok s₃ h₃ => ?_) fun _ _ h' => h'.elim)) fun _ _ h' => h'.elim)
    cases ok with
    | false => exact wpAny_pure ⟨rfl, h₃⟩
    | true =>
      exact wpAny_bind (wpAny_bind (wpAny_mono h₃ (fun x s₄ h₄ => wpAny_bind (wpAny_mono h₄ (fun _ s₅ h₅ => wpAny_pure (wpAny_pure ⟨rfl, h₅⟩)) fun _ _ h' => h'.elim)) fun _ _ h' => h'.elim))
/-- C is a record of the block's own -/
structure CFree (X : Cx) (pins : List (Addr × Obj)) (H : Hp) (C : Addr) : Prop where
  free : H C = none
  neL : C ≠ X.env.locals
  young : X.s₀.heap.objs.size ≤ C
  cells : ∀ x c, X.env.cells.lookup x = some c → c ≠ C
  pins : ∀ p ∈ X.pn ++ pins, p.1 ≠ C
section
variable {X : Cx} {scope : Scope} {cl : List (Str × Addr)} {N : List Str} {tg iter elt : Expr} {ifs : List Expr} {wi : TI} {g : TG} {tt : TT} {te : TE} {pos : Pos}
theorem Inv.nstk {pins : List (Addr × Obj)} {σ : St} {H : Hp} {s : Shared} (I : Inv X pins σ H s) {b : Addr} (h1 : b ≠ X.env.locals) (h2 : b ∉ X.fs) : b ∉ frs X.stack := fun hb => by
  rcases List.mem_cons.mp (I.stkSub b hb) with z | z
  · exact h1 z
  · exact h2 z
theorem blk_start {pins : List (Addr × Obj)} {σ σc : St} {H : Hp} {s : Shared} {h₁ : Heap} {m : Str → Option Value} {fp : List Addr} (B : BlkS X scope cl N) (I : Inv X pins σ H s) (hσ : FromOuter X scope cl N σ σc)
    (hns : h₁.Ns s.heap.objs.size m) (kept : ∀ b o, s.heap.get? b = some o → h₁.get? b = some o) (hfp : ∀ b ∈ fp, FpOk X pins H b) (hfo : ∀ b ∈ fp, ∃ o, s.heap.get? b = some o) (tk : Nat) :
    Inv (X.blk scope cl N s.heap.objs.size fp pins s H) [] σc H { s with heap := h₁, toks := tk } := by
  have nsz : ∀ {b : Addr} {o : Obj}, s.heap.get? b = some o → b ≠ s.heap.objs.size := fun e => Nat.ne_of_lt (Heap.lt_size e)
  have cellK : ∀ c v, s.heap.IsCell c v → h₁.IsCell c v := fun c v ⟨o, ho, hd⟩ => ⟨o, kept c o ho, hd⟩
  have ok : (X.blk scope cl N s.heap.objs.size fp pins s H).Ok :=
    { mod := I.ok.mod
      kind := B.kind
      glob := I.ok.glob
      blt := I.ok.blt
      above := Nat.le_refl _
      inj := fun x y c e1 e2 => I.ok.inj x y c (B.sub x c e1) (B.sub y c e2)
      has := B.has
      cab := fun x c h => nomatch h
      hd := I.ok.hd
      frames := I.ok.frames
      stk := .inl rfl
      exf := fun b hb => ⟨let ⟨o, e⟩ := hfo b hb; nsz e, fun x c e => (hfp b hb).2.2.2.2.1 x c (B.sub x c e)⟩
      bs := fun b o e => I.bs b o e
      bsz := Nat.le_trans I.ok.bsz I.sz
      noex := fun b o e hb => by
        rcases (hfp b hb).2.2.2.1 with z | z
        · exact I.ok.noex b o e z
        · exact absurd (Nat.lt_of_lt_of_le (Heap.lt_size (I.ok.bs b o e).1) z) (Nat.lt_irrefl _)
      exfs := fun b hb => I.nstk (hfp b hb).2.1 (hfp b hb).2.2.1
      funs := I.stack
      frf := I.stkFree }
  exact
    { ok := ok
      os := rfl
      bare := I.bare
      base := Un.kept kept
      loc := ⟨m, hns, fun j y v hj hv _ => by
        obtain ⟨i, c, e1, e2, vis, ec, kd, kd'⟩ := hσ.look j y v hj hv
        obtain ⟨m', hm, hl⟩ := I.loc
        obtain ⟨u, ru, lk⟩ := hl i y v e1 e2 vis
        refine ⟨u, ru, .inr ⟨kd', c, ec, ?_⟩⟩
        rcases lk with ⟨k1, _⟩ | ⟨_, c', ec', hc⟩
        · rcases kd with kd | kd <;> (rw [k1] at kd; cases kd)
        · have e := (B.sub y c ec).symm.trans ec'
          cases e
          exact cellK _ _ hc⟩
      cell := fun x c e => let ⟨v, z⟩ := I.cell x c (B.sub x c e); ⟨v, cellK c v z⟩
      free := I.hok.fresh (Nat.le_refl _)
      freeC := fun x c e => I.freeC x c (B.sub x c e)
      pin := fun p hp => by
        rw [List.append_nil] at hp
        obtain ⟨e, n, ne, nf, d⟩ := I.pin p hp
        exact ⟨kept _ _ e, n, nsz e, I.nstk ne nf, d⟩
      hok := I.hok.kept kept
      len := hσ.len }
/-- the block's run -/
theorem lc_core {pins : List (Addr × Obj)} {σ : St} {H : Hp} {s : Shared} {Q : VK} (B : BlkS X scope cl N) (hc : X.calm = true) (hi : PI X tg iter wi)
    (hg : ∀ C fp pins s H, PG (X.blk scope cl N C fp pins s H) tg g) (ht : ∀ C fp pins s H, PTs (X.blk scope cl N C fp pins s H) ifs tt) (he : ∀ C fp pins s H, PE (X.blk scope cl N C fp pins s H) elt te)
    (I : Inv X pins σ H s) (h : tLC (FromOuter X scope cl N) wi g tt te σ H Q) :
    wpAny (model X.prog X.w) X.A (eval iter X.env) (fun x s₁ => wpAny (model X.prog X.w) X.A (pyIter x) (fun it s₂ => wpAny (model X.prog X.w) X.A (newList []) (fun acc s₃ =>
      wpAny (model X.prog X.w) X.A (newFunctionEnv scope X.env.globals cl [] X.env.qual none .none (some X.env)) (fun cenv s₄ =>
        codeAny (model X.prog X.w) X.A (.compStart (.ListComp elt [⟨tg, iter, ifs, 0⟩] scope pos) 0 it acc { cenv with scope := relabel scope X.env })
          (fun r s' => r = .ok .next ∧ ∃ D H' m, acc = .ref D ∧ Inv X pins σ H' s' ∧ s'.heap.Ns cenv.locals m ∧ CFree X pins H' cenv.locals ∧ Q (.ref D) H') s₄) X.xe s₃) X.xe s₂) X.xe s₁) X.xe s := by
  refine thn (hi pins s σ H _ I h) fun v s1 h1 => thn h1 fun itv s2 h2 => ?_
  obtain ⟨it, fp, tn, J, H2, e, I2, T, st2, f2, rest⟩ := h2
  subst e
  have hD : H2 s2.heap.objs.size = none := I2.hok.fresh (Nat.le_refl _)
  obtain ⟨σc, hσ, W, ⟨m0, w0⟩, turn⟩ := rest s2.heap.objs.size hD
  refine wpAny_newObj_type (wpAny_newFunctionEnv B.nocell (by intro y hy; simp at hy) (fun h₁ hns₁ hsb₁ => ?_) B.kind)
  have I3 : Inv X pins σ (upd H2 s2.heap.objs.size (.lst [])) { s2 with heap := s2.heap.push { cls := .type "list", dict := none, data := .seq ([] : List Value).toArray }, toks := s2.toks } := I2.lnew (its := []) .nil (by show 0 ≤ sizeLine; decide)
  dsimp only at hns₁ hsb₁ ⊢
  have fo : ∀ b ∈ fp, ∃ o, s2.heap.get? b = some o ∧ ∀ v, o.data ≠ .cell v := T.obj 0 _ st2
  have k3 : ∀ b o, s2.heap.get? b = some o → (s2.heap.push { cls := .type "list", dict := none, data := .seq ([] : List Value).toArray }).get? b = some o := fun b o e => Heap.get?_push_of_some _ e
  have kept : ∀ b o, (s2.heap.push { cls := .type "list", dict := none, data := .seq ([] : List Value).toArray }).get? b = some o → h₁.get? b = some o := fun b o e =>
    hsb₁.extBut b o (Nat.ne_of_lt (Heap.lt_size e)) (Heap.get?_push_of_some _ e)
  have f3 : ∀ b ∈ fp, FpOk X pins (upd H2 s2.heap.objs.size (.lst [])) b := fun b hb => by
    obtain ⟨o, e, _⟩ := fo b hb
    refine ⟨?_, (f2 b hb).2⟩
    rw [upd_ne (Nat.ne_of_lt (Heap.lt_size e))]
    exact (f2 b hb).1
  have Ic := blk_start (m := _) B I3 hσ hns₁ kept f3 (fun b hb => let ⟨o, e, _⟩ := fo b hb; ⟨o, k3 b o e⟩) (s2.toks + ([] : List (Str × Value)).length)
  have st4 : tn 0 h₁ := T.keep 0 _ _ st2 fun b _ o e => kept b o (k3 b o e)
  have stat : ∀ {H' : Hp}, (∀ b ∈ fp, H' b = none) → ∀ b ∈ fp, FpOk (X.blk scope cl N (s2.heap.push { cls := .type "list", dict := none, data := .seq ([] : List Value).toArray }).objs.size fp pins { s2 with heap := s2.heap.push { cls := .type "list", dict := none, data := .seq ([] : List Value).toArray }, toks := s2.toks } (upd H2 s2.heap.objs.size (.lst []))) [] H' b := fun hn b hb => by
    obtain ⟨o, e, _⟩ := fo b hb
    refine ⟨hn b hb, Nat.ne_of_lt (Heap.lt_size (k3 b o e)), I3.nstk (f3 b hb).2.1 (f3 b hb).2.2.1, .inl hb, fun x c e => (f3 b hb).2.2.2.2.1 x c (B.sub x c e), fun p hp => ?_⟩
    rw [List.append_nil] at hp
    exact (f3 b hb).2.2.2.2.2 p hp
  have fin : ∀ {σ' : St} {H' : Hp} {s' : Shared}, Inv (X.blk scope cl N (s2.heap.push { cls := .type "list", dict := none, data := .seq ([] : List Value).toArray }).objs.size fp pins { s2 with heap := s2.heap.push { cls := .type "list", dict := none, data := .seq ([] : List Value).toArray }, toks := s2.toks } (upd H2 s2.heap.objs.size (.lst []))) [] σ' H' s' →
      Inv X pins σ H' s' ∧ (∃ m, s'.heap.Ns (s2.heap.push { cls := .type "list", dict := none, data := .seq ([] : List Value).toArray }).objs.size m) ∧ CFree X pins H' (s2.heap.push { cls := .type "list", dict := none, data := .seq ([] : List Value).toArray }).objs.size := fun {σ' H' s'} J' => by
    refine ⟨I3.call' J'.os J'.base J'.hok J'.bare fun b hb => ⟨(f3 b hb).2.2.2.1, (f3 b hb).2.1, (f3 b hb).2.2.2.2.1, (f3 b hb).2.2.2.2.2⟩, ?_, J'.free, Nat.ne_of_gt I3.lt, I3.sz, fun x c e => ?_, fun p hp => ?_⟩
    · obtain ⟨m, hm, _⟩ := J'.loc
      exact ⟨m, hm⟩
    · obtain ⟨v, o, ho, _⟩ := I3.cell x c e
      exact Nat.ne_of_lt (Heap.lt_size ho)
    · exact Nat.ne_of_lt (Heap.lt_size (I3.pin p hp).1)
  have loop : codeAny (model X.prog X.w) X.A (.compLoop (.ListComp elt [⟨tg, iter, ifs, 0⟩] scope pos) 0 (.ref it) (.ref s2.heap.objs.size) (compEnvC scope cl (s2.heap.push { cls := .type "list", dict := none, data := .seq ([] : List Value).toArray }).objs.size X.env))
      (fun r s' => r = .ok .next ∧ ∃ D H' m, Value.ref s2.heap.objs.size = .ref D ∧ Inv X pins σ H' s' ∧ s'.heap.Ns (s2.heap.push { cls := .type "list", dict := none, data := .seq ([] : List Value).toArray }).objs.size m ∧ CFree X pins H' (s2.heap.push { cls := .type "list", dict := none, data := .seq ([] : List Value).toArray }).objs.size ∧ Q (.ref D) H')
      { s2 with heap := h₁, toks := s2.toks + ([] : List (Str × Value)).length } := by
    refine comp_loop (fun n s' => ∃ i σ' H', Inv (X.blk scope cl N (s2.heap.push { cls := .type "list", dict := none, data := .seq ([] : List Value).toArray }).objs.size fp pins { s2 with heap := s2.heap.push { cls := .type "list", dict := none, data := .seq ([] : List Value).toArray }, toks := s2.toks } (upd H2 s2.heap.objs.size (.lst []))) [] σ' H' s' ∧
      tn i s'.heap ∧ (∀ b ∈ fp, H' b = none) ∧ W i n σ' H') ?_ m0 ⟨0, σc, _, Ic, st4, fun b hb => (f3 b hb).1, w0⟩
    rintro n s3 ⟨i, σ3, H3, I3', st3, fr3, w3⟩
    rcases turn i n σ3 H3 w3 with ⟨stop, qn⟩ | ⟨go, Nx, hN, step⟩
    · refine thn (T.done (X.blk scope cl N (s2.heap.push { cls := .type "list", dict := none, data := .seq ([] : List Value).toArray }).objs.size fp pins { s2 with heap := s2.heap.push { cls := .type "list", dict := none, data := .seq ([] : List Value).toArray }, toks := s2.toks } (upd H2 s2.heap.objs.size (.lst []))) rfl rfl rfl hc i [] s3 σ3 H3 _ I3' (stat fr3) st3 stop) fun r s4 ⟨hr, I4⟩ => ?_
      subst hr
      obtain ⟨a1, ⟨m, a2⟩, a3⟩ := fin I4
      exact ⟨rfl, _, H3, m, rfl, a1, a2, a3, qn⟩
    · refine thn (T.item (X.blk scope cl N (s2.heap.push { cls := .type "list", dict := none, data := .seq ([] : List Value).toArray }).objs.size fp pins { s2 with heap := s2.heap.push { cls := .type "list", dict := none, data := .seq ([] : List Value).toArray }, toks := s2.toks } (upd H2 s2.heap.objs.size (.lst []))) rfl rfl rfl hc i [] s3 σ3 H3 _ I3' (stat fr3) st3 go) fun r s4 ⟨u, hr, h4⟩ => ?_
      subst hr
      refine thn h4 fun _ s5 ⟨x, H5, I5, r5, y5, st5, fr5⟩ => ?_
      have I5' := I5.pinned (stat fr5) (T.obj _ _ st5)
      refine thn (hg _ _ _ _ _ _ s5 σ3 H5 x u _ I5' r5 (step x H5 y5)) fun _ s6 ⟨σ6, H6, I6, q6⟩ => ?_
      have again : ∀ {σ7 : St} {H7 : Hp} {s7 : Shared}, Inv (X.blk scope cl N (s2.heap.push { cls := .type "list", dict := none, data := .seq ([] : List Value).toArray }).objs.size fp pins { s2 with heap := s2.heap.push { cls := .type "list", dict := none, data := .seq ([] : List Value).toArray }, toks := s2.toks } (upd H2 s2.heap.objs.size (.lst []))) ([] ++ pinsAt fp s5.heap) σ7 H7 s7 → Nx σ7 H7 →
          ∃ m, m < n ∧ ∃ i σ' H', Inv (X.blk scope cl N (s2.heap.push { cls := .type "list", dict := none, data := .seq ([] : List Value).toArray }).objs.size fp pins { s2 with heap := s2.heap.push { cls := .type "list", dict := none, data := .seq ([] : List Value).toArray }, toks := s2.toks } (upd H2 s2.heap.objs.size (.lst []))) [] σ' H' s7 ∧ tn i s7.heap ∧ (∀ b ∈ fp, H' b = none) ∧ W i m σ' H' := fun {σ7 H7 s7} I7 n7 => by
        obtain ⟨m', hm, w7⟩ := hN σ7 H7 n7
        refine ⟨m', hm, i + 1, σ7, H7, I7.unpinned, T.keep _ _ _ st5 fun b hb o e => (I7.pin (b, o) (List.mem_append_right _ (List.mem_append_right _ (mem_pinsAt hb e)))).1, fun b hb => ?_, w7⟩
        obtain ⟨o, e, d⟩ := T.obj _ _ st5 b hb
        exact (I7.pin (b, o) (List.mem_append_right _ (List.mem_append_right _ (mem_pinsAt hb e)))).2.1
      refine thn (ht _ _ _ _ _ _ s6 σ6 H6 _ I6 q6) fun ok s7 ⟨H7, I7, q7⟩ => ?_
      cases ok with
      | false => exact again I7 (by simpa using q7)
      | true =>
        rw [if_pos rfl] at q7 ⊢
        refine thn (he _ _ _ _ _ _ s7 σ6 H7 _ I7 q7) fun y s8 ⟨v, H8, I8, rv, q8⟩ => ?_
        obtain ⟨xs, hD8, hz, n8⟩ := q8
        exact thn (mt_append _ s8 σ6 H8 (.ref s2.heap.objs.size) [v] (.ref s2.heap.objs.size) [y] (fun _ H' => Nx σ6 H') I8 rfl (.cons rv .nil) ⟨_, xs, v, rfl, rfl, hD8, hz, n8⟩) fun _ s9 ⟨_, H9, I9, _, n9⟩ => again I9 n9
  exact codeAny_compStart_list loop (T.self _ 0 _ _ _ st4 loop)
/-- a comprehension as a value -/
theorem pe_lcomp (B : BlkS X scope cl N) (hc : X.calm = true) (hi : PI X tg iter wi)
    (hg : ∀ C fp pins s H, PG (X.blk scope cl N C fp pins s H) tg g) (ht : ∀ C fp pins s H, PTs (X.blk scope cl N C fp pins s H) ifs tt) (he : ∀ C fp pins s H, PE (X.blk scope cl N C fp pins s H) elt te)
    (hs : ∀ x, foldedSetIterable iter X.env x = pure x := by intro _; rfl) : PE X (.ListComp elt [⟨tg, iter, ifs, 0⟩] scope pos) (tLC (FromOuter X scope cl N) wi g tt te) := by
  intro pins s σ H Q I h
  rw [eval_ListComp]
  refine wpAny_comprehension_free (use := none) rfl hs B.clos B.kind B.names (thn (lc_core (pos := pos) (Q := Q) B hc hi hg ht he I h) fun x s1 h1 => thn h1 fun it s2 h2 => thn h2 fun acc s3 h3 => thn h3 fun cenv s4 h4 => ?_)
  refine codeAny_mono h4 fun r s5 h5 => ?_
  obtain ⟨rfl, D, H', m, rfl, I5, hn, cf, q⟩ := h5
  exact ⟨m, hn, fun h' hs' => ⟨.ref D, H', I5.turned (t' := s5.toks) (fun b o hb e => hs'.extBut b o hb e) cf.free cf.neL (.inr cf.young) cf.cells cf.pins, rfl, q⟩⟩
end
/-! rules whose reading names K itself, for a block -/
theorem ix_tupK {X : Cx} (K : PySem.W.Frag) (h : X.K = K) : IxR X (rIxT K) := h ▸ ix_tup
theorem nd_one (x : Str) : [x].Nodup := by simp
/-- a block that sees no name around it -/
theorem lookup_mem : ∀ {l : List (Str × NameKind)} {x : Str} {k : NameKind}, l.lookup x = some k → (x, k) ∈ l
  | [], _, _, h => by simp at h
  | (y, j) :: r, x, k, h => by
    rw [List.lookup_cons] at h
    cases e : x == y with
    | true =>
      rw [e] at h
      cases h
      have := eq_of_beq e
      subst this
      exact List.mem_cons_self
    | false =>
      rw [e] at h
      exact List.mem_cons_of_mem _ (lookup_mem h)
theorem BlkS.plain {X : Cx} {scope : Scope} {N : List Str} (kind : scope.kind = .function) (h : ∀ y ∈ scope.names, y.2 ≠ .free ∧ y.2 ≠ .cell) (names : ∀ x ∈ scope.names, x.2 = .local → scope.names.lookup x.1 = some .local) : BlkS X scope [] N where
  clos := closureFor_none fun x hx => (h x hx).1
  kind := kind
  nocell := fun y hy => (h y hy).2
  names := names
  sub := fun x c e => by simp at e
  has := fun x hx => by
    have e : (relabel scope X.env).names = scope.names := by
      unfold relabel
      exact map_eq_self fun y hy => by
        have := (h y hy).1
        obtain ⟨n, k⟩ := y
        have hk : (k == NameKind.free) = false := by simpa using this
        simp [hk]
    rw [e] at hx
    rcases hx with hx | hx
    · exact absurd rfl (h _ (lookup_mem hx)).2
    · exact absurd rfl (h _ (lookup_mem hx)).1
/-! ### the forms one uses -/
/-- over a list that the block leaves as it is -/
theorem lc_list {K : PySem.W.Frag} {a D : Addr} {xs : List V} {g : TG} {tt : TT} {te : TE} {σ : St} {H : Hp} {Pq : Hp → Prop} (Pv : Nat → St → Hp → Prop) (h0 : Pv 0 σ H) (hl : ∀ i σ H, i ≤ xs.length → Pv i σ H → SqL K H a xs)
    (hs : ∀ i x σ H, xs[i]? = some x → Pv i σ H → g x σ H fun σ3 H3 => tt σ3 H3 fun b H4 => if b = true then te σ3 H4 fun y H5 => ∃ ys, H5 D = some (.lst ys) ∧ ys.length < sizeLine ∧ Pv (i + 1) σ3 (upd H5 D (.lst (ys ++ [y]))) else Pv (i + 1) σ3 H4)
    (hd : ∀ σ H, Pv xs.length σ H → Pq H) :
    ∃ W : Nat → Nat → St → Hp → Prop, (∃ m, W 0 m σ H) ∧ ∀ i m σ' H', W i m σ' H' → ((Itl K a).stop i H' ∧ Pq H') ∨ ((Itl K a).go i H' ∧ ∃ N : St → Hp → Prop, (∀ σ2 H2, N σ2 H2 → ∃ m', m' < m ∧ W (i + 1) m' σ2 H2) ∧
      ∀ x H2, (Itl K a).yld i H' x H2 → g x σ' H2 fun σ3 H3 => tt σ3 H3 fun b H4 => if b = true then te σ3 H4 fun y H5 => ∃ xs, H5 D = some (.lst xs) ∧ xs.length < sizeLine ∧ N σ3 (upd H5 D (.lst (xs ++ [y]))) else N σ3 H4) := by
  refine ⟨fun i m σ H => m = xs.length - i ∧ i ≤ xs.length ∧ Pv i σ H, ⟨xs.length, by simp, Nat.zero_le _, h0⟩, ?_⟩
  rintro i m σ H ⟨rfl, hi, p⟩
  have q := hl i σ H hi p
  by_cases hlt : i < xs.length
  · refine .inr ⟨⟨xs, xs[i], q, by simp [hlt]⟩, Pv (i + 1), fun σ' H' p' => ⟨xs.length - (i + 1), by omega, rfl, hlt, p'⟩, fun x H' y => ?_⟩
    obtain ⟨e, y⟩ := y
    subst e
    exact hs i x σ _ (y xs q) p
  · have e : i = xs.length := by omega
    subst e
    exact .inl ⟨⟨xs, q, Nat.le_refl _⟩, hd σ H p⟩
end L2
namespace L2
open PySem PySem.Spec PyProof.Rows
/-! LOOPS over dicts (keys, items), over enumerate; dict(d) -/
section
variable {X : Cx} {pins : List (Addr × Obj)} {σ : St} {H : Hp} {s : Shared}
end
/-! ### for k in d -/
def Itk (d : Addr) (kvs : List (Key × V)) (o : Obj) : It :=
  ⟨fun i H => i < kvs.length ∧ H d = some (.frz o (.dK kvs)), fun i H x H' => H' = H ∧ ∃ kv, kvs[i]? = some kv ∧ x = kV kv.1, fun i H => kvs.length ≤ i ∧ H d = some (.frz o (.dK kvs))⟩
def iKeys (tl : TE) : TI := fun σ H R => tl σ H fun x H1 => ∃ d kvs, x = .ref d ∧ H1 d = some (.dK kvs) ∧ ∀ o, R (Itk d kvs o) (upd H1 d (.frz o (.dK kvs)))
section
variable {X : Cx} {tg : Expr}
end
/-! ### for k, v in d.items() -/
def Iti (d : Addr) (kvs : List (Key × V)) (o : Obj) : It :=
  ⟨fun i H => i < kvs.length ∧ H d = some (.frz o (.dK kvs)), fun i H x H' => ∃ kv p, kvs[i]? = some kv ∧ H p = none ∧ x = .ref p ∧ H' = upd H p (.tup [kV kv.1, kv.2]), fun i H => kvs.length ≤ i ∧ H d = some (.frz o (.dK kvs))⟩
def iItems (tl : TE) : TI := fun σ H R => tl σ H fun x H1 => ∃ d kvs, x = .ref d ∧ H1 d = some (.dK kvs) ∧ ∀ o, R (Iti d kvs o) (upd H1 d (.frz o (.dK kvs)))
section
variable {X : Cx} {elts : List Expr} {x1 : Nat} {tpos : Pos}
end
/-! ### dict(d) -/
end L2
namespace Lp
/-- a row and its opened links -/
structure RowOk (links : Int) (os : List Int) (most : Nat) : Prop where
  lo : 1 ≤ links
  hi : links ≤ 10 ^ 30
  inc : os.Pairwise (· < ·)
  rng : ∀ o ∈ os, 0 ≤ o ∧ o < links
  len : os.length ≤ most

theorem RowOk.mono {links : Int} {os : List Int} {m n : Nat} (h : RowOk links os m) (hn : m ≤ n) : RowOk links os n :=
  ⟨h.lo, h.hi, h.inc, h.rng, Nat.le_trans h.len hn⟩

/-- a loop's fold, one turn on -/
theorem fold_take {α β : Type} (f : β → α → β) (b : β) {xs : List α} {i : Nat} {x : α} (h : xs[i]? = some x) :
    (xs.take (i + 1)).foldl f b = f ((xs.take i).foldl f b) x := by
  rw [List.take_add_one, h, List.foldl_append]
  rfl


/-! ### pieces -/
def stepP (st : List (Int × Int) × Int) (l : Int) : List (Int × Int) × Int :=
  ((st.1 ++ if st.2 < l then [(st.2, l - st.2)] else []) ++ [(l, 1)], l + 1)
def piecesP (links : Int) (os : List Int) : List (Int × Int) :=
  (os.foldl stepP ([], 0)).1 ++ if (os.foldl stepP ([], 0)).2 < links then [((os.foldl stepP ([], 0)).2, links - (os.foldl stepP ([], 0)).2)] else []
def stepL (links : Int) (st : List (Int × Int) × Int) (l : Int) : List (Int × Int) × Int :=
  ((st.1 ++ if st.2 < l then [(st.2, l - st.2)] else []) ++ (if l < links then [(l, 1)] else []), l + 1)
def piecesL (links : Int) (os : List Int) : List (Int × Int) := ((os ++ [links]).foldl (stepL links) ([], 0)).1

theorem stepL_fold {links : Int} : ∀ (os : List Int) (st : List (Int × Int) × Int), (∀ o ∈ os, o < links) → os.foldl (stepL links) st = os.foldl stepP st
  | [], _, _ => rfl
  | o :: r, st, h => by
    have e : stepL links st o = stepP st o := by
      unfold stepL stepP
      rw [if_pos (h o List.mem_cons_self)]
    rw [List.foldl_cons, List.foldl_cons, e]
    exact stepL_fold r _ fun x hx => h x (List.mem_cons_of_mem _ hx)
theorem piecesL_eq {links : Int} {os : List Int} (h : ∀ o ∈ os, o < links) : piecesL links os = piecesP links os := by
  unfold piecesL piecesP
  rw [List.foldl_append, stepL_fold os _ h]
  show (stepL links _ links).1 = _
  unfold stepL
  rw [if_neg (Int.lt_irrefl links), List.append_nil]

theorem stepP_len (st : List (Int × Int) × Int) (l : Int) : (stepP st l).1.length ≤ st.1.length + 2 := by
  unfold stepP
  simp only [List.length_append, List.length_cons, List.length_nil]
  split <;> simp
theorem foldP_len : ∀ (os : List Int) (st : List (Int × Int) × Int), (os.foldl stepP st).1.length ≤ st.1.length + 2 * os.length
  | [], st => by simp
  | o :: r, st => by
    have := foldP_len r (stepP st o)
    have := stepP_len st o
    rw [List.foldl_cons, List.length_cons]
    omega
theorem piecesP_len (links : Int) (os : List Int) : (piecesP links os).length ≤ 2 * os.length + 1 := by
  have := foldP_len os ([], 0)
  unfold piecesP
  rw [List.length_append]
  simp only [List.length_nil] at this
  split <;> simp <;> omega
theorem stepL_len (links : Int) (st : List (Int × Int) × Int) (l : Int) : (stepL links st l).1.length ≤ st.1.length + 2 := by
  unfold stepL
  simp only [List.length_append]
  split <;> split <;> simp
theorem foldL_len (links : Int) : ∀ (os : List Int) (st : List (Int × Int) × Int), (os.foldl (stepL links) st).1.length ≤ st.1.length + 2 * os.length
  | [], st => by simp
  | o :: r, st => by
    have := foldL_len links r (stepL links st o)
    have := stepL_len links st o
    rw [List.foldl_cons, List.length_cons]
    omega

/-- sorted and without doubles: rising -/
theorem rising_of : ∀ {xs : List Int}, xs.Pairwise (· ≤ ·) → xs.Nodup → xs.Pairwise (· < ·)
  | [], _, _ => List.Pairwise.nil
  | x :: r, p, n => by
    obtain ⟨h1, h2⟩ := List.pairwise_cons.mp p
    obtain ⟨n1, n2⟩ := List.nodup_cons.mp n
    refine List.pairwise_cons.mpr ⟨fun y hy => ?_, rising_of h2 n2⟩
    have := h1 y hy
    have : x ≠ y := fun e => n1 (e ▸ hy)
    omega
/-- what _law_row_by gathers, ahead of the sort -/
structure Drawn (links : Int) (os : List Int) (i : Nat) : Prop where
  nd : os.Nodup
  rng : ∀ o ∈ os, 0 ≤ o ∧ o < links
  len : os.length ≤ i
theorem Drawn.more {links : Int} {os : List Int} {i : Nat} {x : Int} (h : Drawn links os i) (h0 : 0 ≤ x) (h1 : x < links) (hn : ¬ x ∈ os) : Drawn links (os ++ [x]) (i + 1) := by
  refine ⟨?_, ?_, ?_⟩
  · rw [List.nodup_append]
    refine ⟨h.nd, by simp, ?_⟩
    intro a ha b hb e
    rw [List.mem_singleton] at hb
    subst hb; subst e
    exact hn ha
  · intro o ho
    rcases List.mem_append.mp ho with ho | ho
    · exact h.rng o ho
    · rw [List.mem_singleton] at ho; subst ho; exact ⟨h0, h1⟩
  · rw [List.length_append, List.length_singleton]
    exact Nat.succ_le_succ h.len
theorem Drawn.row {links : Int} {os os' : List Int} {m : Nat} (h : Drawn links os m) (hl : 1 ≤ links) (hh : links ≤ 10 ^ 30) (p : os'.Perm os) (s : os'.Pairwise (· ≤ ·)) : RowOk links os' m :=
  ⟨hl, hh, rising_of s (p.nodup_iff.mpr h.nd), fun o ho => h.rng o (p.mem_iff.mp ho), by rw [p.length_eq]; exact h.len⟩
end Lp
namespace Lp
/-! ### in how many ways some of xs come to t -/
def W : List Int → Int → Int
  | [], t => if t = 0 then 1 else 0
  | x :: r, t => W r t + W r (t - x)
theorem W_nil (t : Int) : W [] t = if t = 0 then 1 else 0 := rfl
theorem W_cons (x : Int) (r : List Int) (t : Int) : W (x :: r) t = W r t + W r (t - x) := rfl
theorem W_nonneg : ∀ (xs : List Int) (t : Int), 0 ≤ W xs t
  | [], t => by rw [W_nil]; split <;> decide
  | x :: r, t => by rw [W_cons]; have := W_nonneg r t; have := W_nonneg r (t - x); omega
theorem W_snoc (x : Int) : ∀ (xs : List Int) (t : Int), W (xs ++ [x]) t = W xs t + W xs (t - x)
  | [], t => rfl
  | y :: r, t => by
    rw [List.cons_append, W_cons, W_cons, W_cons, W_snoc x r t, W_snoc x r (t - y)]
    have e : t - y - x = t - x - y := by omega
    rw [e]; omega
theorem W_perm {xs ys : List Int} (p : xs.Perm ys) : ∀ t, W xs t = W ys t := by
  induction p with
  | nil => exact fun _ => rfl
  | cons x _ ih => exact fun t => by rw [W_cons, W_cons, ih, ih]
  | swap x y l =>
    intro t
    rw [W_cons, W_cons, W_cons, W_cons, W_cons, W_cons]
    have e : t - x - y = t - y - x := by omega
    rw [e]; omega
  | trans _ _ h1 h2 => exact fun t => (h1 t).trans (h2 t)
theorem W_neg : ∀ {xs : List Int} {t : Int}, (∀ x ∈ xs, 0 < x) → t < 0 → W xs t = 0
  | [], t, _, h => by rw [W_nil, if_neg (by omega)]
  | x :: r, t, p, h => by
    have h1 := p x List.mem_cons_self
    rw [W_cons, W_neg (fun y hy => p y (List.mem_cons_of_mem _ hy)) h, W_neg (fun y hy => p y (List.mem_cons_of_mem _ hy)) (by omega)]
    rfl
theorem W_above : ∀ {xs : List Int} {t : Int}, (∀ x ∈ xs, 0 < x) → xs.sum < t → W xs t = 0
  | [], t, _, h => by rw [W_nil, if_neg (by rw [List.sum_nil] at h; omega)]
  | x :: r, t, p, h => by
    have h1 := p x List.mem_cons_self
    rw [List.sum_cons] at h
    rw [W_cons, W_above (fun y hy => p y (List.mem_cons_of_mem _ hy)) (by omega), W_above (fun y hy => p y (List.mem_cons_of_mem _ hy)) (by omega)]
    rfl
/-! ### all amounts together -/
def sumTo (f : Int → Int) : Nat → Int
  | 0 => 0
  | n + 1 => sumTo f n + f n
theorem sum_nonneg : ∀ {xs : List Int}, (∀ x ∈ xs, 0 < x) → 0 ≤ xs.sum
  | [], _ => by simp
  | x :: r, p => by
    have := p x List.mem_cons_self
    have := sum_nonneg fun y hy => p y (List.mem_cons_of_mem _ hy)
    rw [List.sum_cons]; omega
theorem snoc_rec {α : Type} {P : List α → Prop} (nil : P []) (snoc : ∀ xs x, P xs → P (xs ++ [x])) : ∀ xs, P xs := fun xs => by
  have h : ∀ ys : List α, P ys.reverse := fun ys => by
    induction ys with
    | nil => exact nil
    | cons y r ih => rw [List.reverse_cons]; exact snoc _ _ ih
  have := h xs.reverse
  rwa [List.reverse_reverse] at this
/-! ### the gap: the least first -/
def gapOf : Int → List Int → Option Int
  | _, [] => none
  | reach, x :: r => if reach + 1 < x then some (reach + 1) else gapOf (reach + x) r
/-- pre: taken; all amounts up to their sum are payable by them -/
theorem gap_some : ∀ {ys pre : List Int} {g : Int}, (∀ x ∈ pre ++ ys, 0 < x) → (pre ++ ys).Pairwise (· ≤ ·) → (∀ t, 0 ≤ t → t ≤ pre.sum → 0 < W pre t) → gapOf pre.sum ys = some g →
    0 ≤ g ∧ W (pre ++ ys) g = 0 ∧ (∀ t, 0 ≤ t → t < g → 0 < W (pre ++ ys) t) ∧ g ≤ (pre ++ ys).sum
  | [], pre, g, _, _, _, h => by cases h
  | x :: r, pre, g, p, s, a, h => by
    have px : 0 < x := p x (by simp)
    have pp : ∀ y ∈ pre, 0 < y := fun y hy => p y (List.mem_append_left _ hy)
    have hs := sum_nonneg pp
    rw [gapOf] at h
    split at h
    · rename_i hx
      cases h
      have big : ∀ y ∈ x :: r, pre.sum + 1 < y := fun y hy => by
        rcases List.mem_cons.mp hy with rfl | hy
        · exact hx
        · have := (List.pairwise_cons.mp (List.pairwise_append.mp s).2.1).1 y hy
          omega
      have zero : ∀ (zs : List Int), (∀ y ∈ zs, pre.sum + 1 < y) → ∀ t, t ≤ pre.sum + 1 → W (pre ++ zs) t = W pre t := fun zs => by
        induction zs using snoc_rec with
        | nil => intro _ t _; rw [List.append_nil]
        | snoc zs y ih =>
          intro hz t ht
          rw [← List.append_assoc, W_snoc, ih (fun w hw => hz w (List.mem_append_left _ hw)) t ht, ih (fun w hw => hz w (List.mem_append_left _ hw)) (t - y) (by have := hz y (by simp); omega),
            W_neg pp (t := t - y) (by have := hz y (by simp); omega)]
          omega
      refine ⟨by omega, ?_, ?_, ?_⟩
      · rw [zero _ big _ (Int.le_refl _)]
        exact W_above pp (by omega)
      · intro t h0 h1
        rw [zero _ big _ (by omega)]
        exact a t h0 (by omega)
      · rw [List.sum_append, List.sum_cons]
        have := sum_nonneg (xs := r) fun y hy => p y (by simp [hy])
        omega
    · rename_i hx
      have e : pre ++ x :: r = (pre ++ [x]) ++ r := by simp
      have es : (pre ++ [x]).sum = pre.sum + x := by simp
      rw [e]
      refine gap_some (ys := r) (pre := pre ++ [x]) (by rw [← e]; exact p) (by rw [← e]; exact s) ?_ (by rw [es]; exact h)
      intro t h0 h1
      rw [es] at h1
      rw [W_snoc]
      have w1 := W_nonneg pre t
      have w2 := W_nonneg pre (t - x)
      by_cases c : t ≤ pre.sum
      · have := a t h0 c; omega
      · have := a (t - x) (by omega) (by omega); omega
theorem gap_none : ∀ {ys pre : List Int}, (∀ x ∈ pre ++ ys, 0 < x) → (∀ t, 0 ≤ t → t ≤ pre.sum → 0 < W pre t) → gapOf pre.sum ys = none →
    ∀ t, 0 ≤ t → t ≤ (pre ++ ys).sum → 0 < W (pre ++ ys) t
  | [], pre, _, a, _ => by rw [List.append_nil]; exact a
  | x :: r, pre, p, a, h => by
    have px : 0 < x := p x (by simp)
    rw [gapOf] at h
    split at h
    · cases h
    · rename_i hx
      have e : pre ++ x :: r = (pre ++ [x]) ++ r := by simp
      have es : (pre ++ [x]).sum = pre.sum + x := by simp
      rw [e]
      refine gap_none (ys := r) (pre := pre ++ [x]) (by rw [← e]; exact p) ?_ (by rw [es]; exact h)
      intro t h0 h1
      rw [es] at h1
      rw [W_snoc]
      have w1 := W_nonneg pre t
      have w2 := W_nonneg pre (t - x)
      by_cases c : t ≤ pre.sum
      · have := a t h0 c; omega
      · have := a (t - x) (by omega) (by omega); omega
end Lp
namespace Lp
def sizesP (links : Int) (os : List Int) : List Int := (piecesP links os).map (·.2)
theorem foldP_facts {links : Int} : ∀ (os : List Int) (st : List (Int × Int) × Int), os.Pairwise (· < ·) → (∀ o ∈ os, st.2 ≤ o ∧ o < links) → (st.1.map (·.2)).sum = st.2 → (∀ x ∈ st.1.map (·.2), 0 < x) → st.2 ≤ links →
    ((os.foldl stepP st).1.map (·.2)).sum = (os.foldl stepP st).2 ∧ (∀ x ∈ (os.foldl stepP st).1.map (·.2), 0 < x) ∧ (os.foldl stepP st).2 ≤ links
  | [], st, _, _, h1, h2, h3 => ⟨h1, h2, h3⟩
  | o :: r, st, p, g, h1, h2, h3 => by
    obtain ⟨p1, p2⟩ := List.pairwise_cons.mp p
    have g0 := g o List.mem_cons_self
    rw [List.foldl_cons]
    have e1 : ((stepP st o).1.map (·.2)).sum = (stepP st o).2 := by
      unfold stepP
      dsimp only
      rw [List.map_append, List.map_append, List.sum_append, List.sum_append, h1]
      split
      · simp; omega
      · simp; omega
    have e2 : ∀ x ∈ (stepP st o).1.map (·.2), 0 < x := by
      unfold stepP
      dsimp only
      intro x hx
      rw [List.map_append, List.map_append] at hx
      rcases List.mem_append.mp hx with hx | hx
      · rcases List.mem_append.mp hx with hx | hx
        · exact h2 x hx
        · split at hx
          · simp at hx; omega
          · simp at hx
      · simp at hx; omega
    refine foldP_facts r (stepP st o) p2 (fun q hq => ?_) e1 e2 ?_
    · have := p1 q hq
      have := g q (List.mem_cons_of_mem _ hq)
      show o + 1 ≤ q ∧ _
      omega
    · show o + 1 ≤ links
      omega
theorem sizes_facts {links : Int} {os : List Int} {m : Nat} (R : RowOk links os m) : (sizesP links os).sum = links ∧ ∀ x ∈ sizesP links os, 0 < x := by
  have hl := R.lo
  obtain ⟨e1, e2, e3⟩ := foldP_facts (links := links) os ([], 0) R.inc (fun o ho => R.rng o ho) rfl (fun x hx => by simp at hx) (by show (0 : Int) ≤ links; omega)
  unfold sizesP piecesP
  rw [List.map_append, List.sum_append, e1]
  constructor
  · split
    · simp; omega
    · simp; omega
  · intro x hx
    rcases List.mem_append.mp hx with hx | hx
    · exact e2 x hx
    · split at hx
      · simp at hx; omega
      · simp at hx
theorem sizes_len {links : Int} {os : List Int} : (sizesP links os).length ≤ 2 * os.length + 1 := by
  unfold sizesP
  rw [List.length_map]
  exact piecesP_len links os
theorem sum_perm {xs ys : List Int} (p : xs.Perm ys) : xs.sum = ys.sum := by
  induction p with
  | nil => rfl
  | cons x _ ih => rw [List.sum_cons, List.sum_cons, ih]
  | swap x y l => simp only [List.sum_cons]; omega
  | trans _ _ h1 h2 => exact h1.trans h2
/-- what gap tells, over the sorted sizes -/
theorem gap_row {xs ys : List Int} (p : ys.Perm xs) (s : ys.Pairwise (· ≤ ·)) (h : ∀ x ∈ xs, 0 < x) :
    (∀ g, gapOf 0 ys = some g → 0 ≤ g ∧ g ≤ xs.sum ∧ W xs g = 0 ∧ ∀ t, 0 ≤ t → t < g → 0 < W xs t) ∧ (gapOf 0 ys = none → ∀ t, 0 ≤ t → t ≤ xs.sum → 0 < W xs t) := by
  have hy : ∀ x ∈ ys, 0 < x := fun x hx => h x (p.mem_iff.mp hx)
  have es : ys.sum = xs.sum := sum_perm p
  have a0 : ∀ t : Int, 0 ≤ t → t ≤ ([] : List Int).sum → 0 < W [] t := fun t h0 h1 => by
    rw [List.sum_nil] at h1
    have : t = 0 := by omega
    subst this; decide
  constructor
  · intro g hg
    obtain ⟨q0, q1, q2, q3⟩ := gap_some (ys := ys) (pre := []) (g := g) hy s a0 hg
    rw [List.nil_append] at q1 q2 q3
    exact ⟨q0, by rw [← es]; exact q3, by rw [← W_perm p]; exact q1, fun t h0 h1 => by rw [← W_perm p]; exact q2 t h0 h1⟩
  · intro hg t h0 h1
    have := gap_none (ys := ys) (pre := []) hy a0 hg t h0 (by rw [List.nil_append, es]; exact h1)
    rw [List.nil_append, W_perm p] at this
    exact this
/-! ### the amounts' ways in a row -/
def toldL (f : Int → Int) (n : Nat) : List Int := (List.range n).map fun t : Nat => f t
end Lp
namespace Lp
open PySem L2
/-! A DICT OF COUNTS: at t stands f t, or nothing where f t is 0 -/
def tv (c : Int) : Option V := if c = 0 then none else some (.int c)
structure Tab (kvs : List (Key × V)) (f : Int → Int) : Prop where
  nd : (kvs.map (·.1)).Nodup
  keyed : ∀ kv ∈ kvs, ∃ (t : Int) (n : Int), kv = ((Sum.inl t : Key), V.int n)
  val : ∀ t : Int, valV kvs (Sum.inl t : Key) = tv (f t)
/- the counts, the first i of the old sums taken with one piece more -/
open Classical in
noncomputable def part (kvs : List (Key × V)) (f : Int → Int) (size : Int) (i : Nat) (t : Int) : Int := f t + if (Sum.inl (t - size) : Key) ∈ (kvs.take i).map (·.1) then f (t - size) else 0
/-- [piece[1] for piece in pieces]: the block's walk over a list of pairs -/
theorem lc_sizes {K : PySem.W.Frag} {H0 H1 : Hp} {p D : Addr} {vs : List V} {ps : List (Int × Int)} {Pq : Hp → Prop} (hp : H0 p = none) (G : Grow H0 H1 p vs ps) (hD : H1 D = none) (hl : ps.length ≤ 1000)
    (q : ∀ H2, Same H0 H2 → H2 D = some (.lst ((ps.map (·.2)).map V.int)) → Pq H2) :
    ∃ W : Nat → Nat → St → Hp → Prop, (∃ m, W 0 m [none] (upd H1 D (.lst []))) ∧ ∀ i m σ' H', W i m σ' H' → ((Itl K p).stop i H' ∧ Pq H') ∨ ((Itl K p).go i H' ∧ ∃ N : St → Hp → Prop, (∀ σ2 H2, N σ2 H2 → ∃ m', m' < m ∧ W (i + 1) m' σ2 H2) ∧
      ∀ x H2, (Itl K p).yld i H' x H2 → gName 0 x σ' H2 fun σ3 H3 => tAlways σ3 H3 fun b H4 => if b = true then (tOp (rIxT K) (tVar 0) (tC (.int 1))) σ3 H4 fun y H5 => ∃ xs, H5 D = some (.lst xs) ∧ xs.length < sizeLine ∧ N σ3 (upd H5 D (.lst (xs ++ [y]))) else N σ3 H4) := by
  have hpD : p ≠ D := ne_of_none G.at_ hD
  refine lc_list (K := K) (a := p) (D := D) (xs := vs) (Pq := Pq) (fun i σ H' => (∃ v, σ = [v]) ∧ Same H1 H' ∧ H' D = some (.lst (((ps.take i).map (·.2)).map V.int))) ?_ ?_ ?_ ?_
  · exact ⟨⟨none, rfl⟩, same_new hD _, upd_same⟩
  · rintro i σ H' _ ⟨_, sm, _⟩
    exact SqL.of (sm _ _ G.at_)
  · rintro i x σ H' hi ⟨⟨v, rfl⟩, sm, hd⟩
    obtain ⟨t, pc, rfl, hpc, hT⟩ := G.tups.get hi
    refine ⟨_, rfl, t, _, _, _, rfl, rfl, SqT.of (sm _ _ hT), atI_nat (j := 1) rfl, _, hd, small1000 (by rw [List.length_map, List.length_map, List.length_take]; omega), ⟨_, rfl⟩, fun b u e => ?_, ?_⟩
    · rw [upd_ne (ne_of_none e hD)]
      exact sm b u e
    · rw [upd_same, List.take_add_one, hpc, List.map_append, List.map_append]
      rfl
  · rintro σ H' ⟨_, sm, hd⟩
    have e := G.tups.length
    rw [e, List.take_length] at hd
    exact q H' (G.same.trans sm) hd
end Lp
namespace L2
open PySem PySem.Spec PyProof.Rows
/-! sum(xs), xs[::-1]; a block that sees names around it -/
section
variable {X : Cx}
/-- xs[::-1] -/
def tRev (K : PySem.W.Frag) (te : TE) : TE := fun σ H Q => te σ H fun x H1 => ∃ a xs, x = .ref a ∧ SqL K H1 a xs ∧ ∀ p, H1 p = none → Q (.ref p) (upd H1 p (.lst xs.reverse))
end
/-! ### a block that sees names around it -/
def relabelS (scope sc : Scope) : List (Str × NameKind) := scope.names.map fun (n, k) => if (k == .free && sc.kind == .function && sc.names.lookup n == some .cell) then (n, .cell) else (n, k)
section
variable {X : Cx} {scope : Scope} {cl : List (Str × Addr)} {N : List Str} {σ σc : St} {y : Str}
end
end L2
namespace Lp
/-! ### the longest row by openings -/
def longP (n : Nat) : Int := ((n : Int) + 1) * 2 ^ (n + 1) - 1
theorem longP_mono (n : Nat) : longP n < longP (n + 1) := by
  unfold longP
  have h : (0 : Int) < 2 ^ (n + 1) := Int.pow_pos (by decide)
  rw [show n + 1 + 1 = (n + 1) + 1 from rfl, Int.pow_succ (2 : Int) (n + 1)]
  generalize (2 : Int) ^ (n + 1) = p at h
  have e1 : ((n : Int) + 1) * p = (n : Int) * p + p := by rw [Int.add_mul]; omega
  have e2 : (((n + 1 : Nat) : Int) + 1) * (p * 2) = (n : Int) * p * 2 + p * 2 * 2 := by
    rw [show (((n + 1 : Nat) : Int) + 1) = (n : Int) + 2 by omega, Int.add_mul, Int.mul_assoc]
    omega
  have h3 : 0 ≤ (n : Int) * p := Int.mul_nonneg (by omega) (by omega)
  rw [e1, e2]
  omega
theorem longP_le : ∀ {m n : Nat}, m ≤ n → longP m ≤ longP n
  | m, 0, h => by have : m = 0 := by omega
                  subst this; exact Int.le_refl _
  | m, n + 1, h => by
    by_cases e : m = n + 1
    · subst e; exact Int.le_refl _
    · have := longP_le (m := m) (n := n) (by omega)
      have := longP_mono n
      omega
theorem longP_93 : (10 : Int) ^ 30 ≤ longP 93 := by unfold longP; decide
/-- amounts doubled i times -/
def dbl (n : Int) (i : Nat) : Int := n * 2 ^ i
theorem dbl_zero (n : Int) : dbl n 0 = n := by simp [dbl]
theorem dbl_succ (n : Int) (i : Nat) : dbl n i * 2 = dbl n (i + 1) := by unfold dbl; rw [Int.pow_succ, Int.mul_assoc]
theorem dbl_long {n : Int} (h : 0 ≤ n) : dbl (n + 1) (n + 1).toNat - 1 = longP n.toNat := by
  unfold dbl longP
  rw [show (n + 1).toNat = n.toNat + 1 by omega, show ((n.toNat : Nat) : Int) = n by omega]
/-- the fewest openings -/
structure Few (links : Int) (n : Nat) : Prop where
  least : ∀ m, m < n → longP m < links
  enough : links ≤ longP n
theorem Few.unique {links : Int} {m n : Nat} (a : Few links m) (b : Few links n) : m = n := by
  rcases Nat.lt_trichotomy m n with h | h | h
  · have := b.least m h; have := a.enough; omega
  · exact h
  · have := a.least n h; have := b.enough; omega
theorem Few.le {links : Int} {n : Nat} (a : Few links n) (h : links ≤ 10 ^ 30) : n ≤ 93 := by
  rcases Nat.lt_or_ge 93 n with c | c
  · have := a.least 93 c; have := longP_93; omega
  · exact c
/-! ### sorted, reckoned -/
def ins (x : Int) : List Int → List Int
  | [] => [x]
  | y :: r => if x ≤ y then x :: y :: r else y :: ins x r
def isort : List Int → List Int
  | [] => []
  | x :: r => ins x (isort r)
theorem sorted_unique : ∀ {xs ys : List Int}, xs.Perm ys → xs.Pairwise (· ≤ ·) → ys.Pairwise (· ≤ ·) → xs = ys
  | [], ys, p, _, _ => p.nil_eq
  | x :: r, [], p, _, _ => p.symm.nil_eq.symm
  | x :: r, y :: t, p, h, k => by
    obtain ⟨h1, h2⟩ := List.pairwise_cons.mp h
    obtain ⟨k1, k2⟩ := List.pairwise_cons.mp k
    have e : x = y := by
      have a : x ≤ y := by
        rcases List.mem_cons.mp (p.symm.mem_iff.mp (List.mem_cons_self (a := y) (l := t))) with q | q
        · omega
        · exact h1 y q
      have b : y ≤ x := by
        rcases List.mem_cons.mp (p.mem_iff.mp (List.mem_cons_self (a := x) (l := r))) with q | q
        · omega
        · exact k1 x q
      omega
    subst e
    rw [sorted_unique (List.perm_cons x |>.mp p) h2 k2]
/-! ### rising lists -/
def lastP (b : List Int) : Int := match b.getLast? with
  | some x => x + 1
  | none => 0
/-- the next links behind b -/
def nextP (links : Int) (b : List Int) : List Int := (List.range (links - lastP b).toNat).map fun (i : Nat) => lastP b + (i : Int)
def stepR (links : Int) (xss : List (List Int)) : List (List Int) := xss.flatMap fun b => (nextP links b).map fun l => b ++ [l]
def risN (links : Int) : Nat → List (List Int)
  | 0 => [[]]
  | n + 1 => stepR links (risN links n)
/-- which links _law_lists takes -/
def takesP (b : List Int) (l : Int) : Bool := decide (lastP b ≤ l)
/-- the rising lists of links below links -/
structure Ris (links : Int) (n : Nat) (os : List Int) : Prop where
  inc : os.Pairwise (· < ·)
  rng : ∀ o ∈ os, 0 ≤ o ∧ o < links
  len : os.length = n
  last : 0 ≤ lastP os ∧ ∀ o ∈ os, o < lastP os
/-! ### full -/
def fullB (links : Int) (os : List Int) : Bool := (gapOf 0 (isort (sizesP links os))).isNone
def fewB (links : Int) : Nat := if links ≤ 1 then 0 else if links ≤ 7 then 1 else 2
def checkNine (links : Int) : Bool :=
  (fewB links == 0 || (risN links (fewB links - 1)).all fun os => !fullB links os) &&
  (if links == longP (fewB links) then ((risN links (fewB links)).filter (fullB links)).length == [1, 2, 6].getD (fewB links) 0 else decide (0 < ((risN links (fewB links)).filter (fullB links)).length))
end Lp
namespace Lp
end Lp
namespace Lp
/-! the links that opened_for tells, and that they leave no gap -/
def rch (links : Int) (n : Nat) : Nat → Int
  | 0 => n
  | k + 1 => rch links n k + (if links - rch links n k < rch links n k + 1 then links - rch links n k else rch links n k + 1)
def opn (links : Int) (n : Nat) : Nat → List Int
  | 0 => []
  | k + 1 => opn links n k ++ [rch links n (k + 1) - n + (0 + (k : Int))]
theorem opn_len (links : Int) (n : Nat) : ∀ k, (opn links n k).length = k
  | 0 => rfl
  | k + 1 => by rw [opn, List.length_append, opn_len links n k]; rfl
section
variable {links : Int} {n : Nat}
theorem rch_step (k : Nat) (h : (n : Int) ≤ links) : (n : Int) ≤ rch links n k ∧ rch links n k ≤ links → rch links n k ≤ rch links n (k + 1) ∧ rch links n (k + 1) ≤ links ∧ rch links n (k + 1) - rch links n k ≤ rch links n k + 1 := by
  rintro ⟨h1, h2⟩
  rw [rch]
  split <;> omega
theorem rch_in (h : (n : Int) ≤ links) : ∀ k, (n : Int) ≤ rch links n k ∧ rch links n k ≤ links
  | 0 => ⟨Int.le_refl _, h⟩
  | k + 1 => by
    have h1 := rch_in h k
    have h2 := rch_step k h h1
    omega
theorem rch_up (h : (n : Int) ≤ links) (k : Nat) : rch links n k ≤ rch links n (k + 1) := (rch_step k h (rch_in h k)).1
theorem rch_few (h : (n : Int) ≤ links) (k : Nat) : rch links n (k + 1) - rch links n k ≤ rch links n k + 1 := (rch_step k h (rch_in h k)).2.2
theorem rch_dbl (h : (n : Int) ≤ links) : ∀ k, rch links n k = links ∨ rch links n k + 1 = dbl ((n : Int) + 1) k
  | 0 => .inr (by rw [dbl_zero]; rfl)
  | k + 1 => by
    have h1 := rch_in h k
    rw [rch]
    split
    · exact .inl (by omega)
    · next c =>
      rcases rch_dbl h k with z | z
      · omega
      · refine .inr ?_
        rw [← dbl_succ, ← z]
        omega
theorem few_le (F : Few links n) (h1 : 1 ≤ links) : (n : Int) ≤ links := by
  cases n with
  | zero => simpa using Int.le_trans (by decide) h1
  | succ m =>
    have h2 := F.least m (Nat.lt_succ_self m)
    unfold longP at h2
    have h3 : (1 : Int) ≤ 2 ^ m := by
      have := Int.pow_pos (n := (2 : Int)) (m := m) (by decide)
      omega
    have h4 : ((m : Int) + 1) * 2 ≤ ((m : Int) + 1) * 2 ^ (m + 1) := by
      refine Int.mul_le_mul_of_nonneg_left ?_ (by omega)
      rw [Int.pow_succ]
      omega
    omega
theorem rch_last (F : Few links n) (h1 : 1 ≤ links) : links - rch links n n ≤ rch links n n + 1 := by
  have h := few_le F h1
  have h2 := rch_in h n
  rcases rch_dbl h n with z | z
  · omega
  · have e := dbl_long (n := (n : Int)) (by omega)
    have f := F.enough
    rw [show ((n : Int) + 1).toNat = n + 1 by omega, ← dbl_succ, Int.toNat_natCast] at e
    omega
theorem opn_in (h : (n : Int) ≤ links) : ∀ k, (opn links n k).Pairwise (· < ·) ∧ ∀ x ∈ opn links n k, 0 ≤ x ∧ x < rch links n k - n + k
  | 0 => ⟨.nil, fun x hx => by cases hx⟩
  | k + 1 => by
    obtain ⟨h1, h2⟩ := opn_in h k
    have h3 := rch_in h (k + 1)
    have h4 := rch_up h k
    refine ⟨?_, fun x hx => ?_⟩
    · rw [opn, List.pairwise_append]
      refine ⟨h1, by simp, fun x hx y hy => ?_⟩
      rw [List.mem_singleton.mp hy]
      have := h2 x hx
      omega
    · rw [opn] at hx
      rcases List.mem_append.mp hx with z | z
      · have := h2 x z
        have e : ((k + 1 : Nat) : Int) = k + 1 := by omega
        omega
      · rw [List.mem_singleton.mp z]
        have e : ((k + 1 : Nat) : Int) = k + 1 := by omega
        omega
theorem opn_row (F : Few links n) (h1 : 1 ≤ links) (h2 : links ≤ 10 ^ 30) : RowOk links (opn links n n) 93 := by
  have h := few_le F h1
  obtain ⟨a, b⟩ := opn_in h n
  refine ⟨h1, h2, a, fun x hx => ?_, by rw [opn_len]; exact F.le h2⟩
  have := b x hx
  have := rch_in h n
  omega
/-- the sizes, the ones first -/
def dif (links : Int) (n : Nat) : Nat → List Int
  | 0 => []
  | k + 1 => dif links n k ++ if rch links n k < rch links n (k + 1) then [rch links n (k + 1) - rch links n k] else []
theorem fold_opn (h : (n : Int) ≤ links) : ∀ k, ((opn links n k).foldl stepP ([], 0)).2 = rch links n k - n + k ∧ (((opn links n k).foldl stepP ([], 0)).1.map (·.2)).Perm (List.replicate k 1 ++ dif links n k)
  | 0 => ⟨by simp [opn, rch], .refl _⟩
  | k + 1 => by
    obtain ⟨h1, h2⟩ := fold_opn h k
    rw [opn, List.foldl_append]
    generalize (opn links n k).foldl stepP ([], 0) = st at *
    refine ⟨?_, ?_⟩
    · show rch links n (k + 1) - n + (0 + (k : Int)) + 1 = _
      omega
    · show (((st.1 ++ if st.2 < rch links n (k + 1) - n + (0 + (k : Int)) then [(st.2, rch links n (k + 1) - n + (0 + (k : Int)) - st.2)] else []) ++ [(rch links n (k + 1) - n + (0 + (k : Int)), 1)]).map fun q : Int × Int => q.2).Perm _
      rw [dif, List.replicate_succ, List.cons_append, ← List.append_assoc]
      have e : ((if st.2 < rch links n (k + 1) - n + (0 + (k : Int)) then [(st.2, rch links n (k + 1) - n + (0 + (k : Int)) - st.2)] else []).map fun q : Int × Int => q.2) = if rch links n k < rch links n (k + 1) then [rch links n (k + 1) - rch links n k] else [] := by
        rw [h1]
        by_cases c : rch links n k < rch links n (k + 1)
        · rw [if_pos c, if_pos (by omega)]
          simp
          omega
        · rw [if_neg c, if_neg (by omega)]
          rfl
      rw [List.map_append, List.map_append, e]
      refine (List.perm_append_comm).trans ?_
      exact List.Perm.cons _ (h2.append_right _)
theorem gap_ones {r : Int} (hr : 0 ≤ r) (t : List Int) : ∀ k : Nat, gapOf r (List.replicate k 1 ++ t) = gapOf (r + k) t
  | 0 => by simp
  | k + 1 => by
    rw [List.replicate_succ, List.cons_append, gapOf, if_neg (by omega), gap_ones (by omega) t k]
    congr 1
    omega
theorem gap_dif (h : (n : Int) ≤ links) (t : List Int) : ∀ k, gapOf n (dif links n k ++ t) = gapOf (rch links n k) t := by
  intro k
  induction k generalizing t with
  | zero => rfl
  | succ k ih =>
    rw [dif, List.append_assoc, ih]
    split
    · rw [List.singleton_append, gapOf, if_neg (by have := rch_few h k; omega)]
      congr 1
      omega
    · next c =>
      have := rch_up h k
      have e : rch links n (k + 1) = rch links n k := by omega
      rw [e]
      rfl
theorem opn_full (F : Few links n) (h1 : 1 ≤ links) (h2 : links ≤ 10 ^ 30) {ys : List Int} (p : ys.Perm (sizesP links (opn links n n))) (s : ys.Pairwise (· ≤ ·)) : gapOf 0 ys = none := by
  have h := few_le F h1
  have R := opn_row F h1 h2
  obtain ⟨f1, f2⟩ := fold_opn h n
  obtain ⟨zs, hzs⟩ : ∃ zs, (List.replicate n 1 ++ dif links n n) ++ (if rch links n n < links then [links - rch links n n] else []) = zs := ⟨_, rfl⟩
  have pz : (sizesP links (opn links n n)).Perm zs := by
    rw [← hzs]
    unfold sizesP piecesP
    rw [List.map_append]
    refine f2.append ?_
    rw [f1]
    have e : rch links n n - n + n = rch links n n := by omega
    rw [e]
    split
    · exact .refl _
    · exact .refl _
  have gz : gapOf 0 zs = none := by
    rw [← hzs, List.append_assoc, gap_ones (Int.le_refl _), Int.zero_add, gap_dif h]
    split
    · rw [gapOf, if_neg (by have := rch_last F h1; omega)]
      rfl
    · rfl
  obtain ⟨_, hp⟩ := sizes_facts R
  have pos : ∀ x ∈ zs, 0 < x := fun x hx => hp x (pz.mem_iff.mpr hx)
  have all := gap_none (ys := zs) (pre := []) (by simpa using pos) (fun t t0 t1 => by
    have : t = 0 := by simp at t1; omega
    subst this
    decide) (by simpa using gz)
  cases hg : gapOf 0 ys with
  | none => rfl
  | some g =>
    obtain ⟨g0, g1, g2, _⟩ := (gap_row p s hp).1 g hg
    have := all g g0 (by simpa using (sum_perm pz ▸ g1))
    rw [List.nil_append, ← W_perm pz g, g2] at this
    exact absurd this (by decide)
end
end Lp
namespace L2
open PySem PySem.Spec PyProof.Rows Lp
/-! lists of lists of ints -/
theorem ip_mul {X : Cx} : PIp X .Mult (fun x y H Q => ∃ i j, x = .int i ∧ y = .int j ∧ CMul i j ∧ Q (.int (i * j)) H) := by
  intro pins s σ H x y v u Q I r1 r2 h
  obtain ⟨i, j, e1, e2, hc, q⟩ := h
  subst e1; subst e2
  obtain ⟨t, rfl⟩ := r1
  obtain ⟨t', rfl⟩ := r2
  exact PyProof.Rows.imul_int ⟨.int _, H, I.tok _, ⟨_, rfl⟩, q⟩ hc.ok
inductive LsH (H : Hp) : List V → List (List Int) → Prop
  | nil : LsH H [] []
  | cons {a : Addr} {xs : List Int} {vs : List V} {xss : List (List Int)} : H a = some (.lst (xs.map V.int)) → LsH H vs xss → LsH H (.ref a :: vs) (xs :: xss)
def lD (xs : List Int) : PyData := .list (xs.map PyData.int)
/-- a new list l of new lists; all that was tracked stays -/
structure LsNew (H H' : Hp) (l : Addr) (vs : List V) (xss : List (List Int)) : Prop where
  same : Same H H'
  at_ : H' l = some (.lst vs)
  new : H l = none
  ls : LsH H' vs xss
  fresh : ∀ v ∈ vs, ∃ a, v = .ref a ∧ H a = none
  apart : ∀ v ∈ vs, v ≠ .ref l
section
variable {H H1 H2 : Hp} {l q p : Addr} {vs : List V} {xss : List (List Int)} {xs : List Int} {o : HO}
end
theorem atI_lastI (ys : List Int) (z : Int) : atI ((ys ++ [z]).map V.int) (-1) = some (.int z) := by
  have e : (ys ++ [z]).map V.int = ys.map V.int ++ [.int z] := by simp
  have e2 : ixN (ys.map V.int ++ [V.int z]).length (-1) = some ys.length := by
    unfold ixN
    rw [if_neg (by decide)]
    simp
    omega
  rw [e]
  unfold atI
  rw [e2]
  show (ys.map V.int ++ [V.int z])[ys.length]? = _
  rw [List.getElem?_append_right (by simp)]
  simp
end L2
namespace Lp
open PySem
/-! THE TABLE OF A SET to which nothing but ints is added: its places rise, as long as it is plain -/
theorem below_go {xs : Array Nat} {j : Nat} (p : xs.toList.Pairwise (· < ·)) : ∀ (fuel lo hi : Nat), hi ≤ xs.size → lo ≤ hi → hi - lo ≤ fuel → (∀ i x, xs[i]? = some x → i < lo → x < j) → (∀ i x, xs[i]? = some x → hi ≤ i → j ≤ x) →
    let k := SetTable.below.go xs j fuel lo hi
    k ≤ xs.size ∧ (∀ i x, xs[i]? = some x → i < k → x < j) ∧ ∀ i x, xs[i]? = some x → k ≤ i → j ≤ x
  | 0, lo, hi, h1, h2, h3, a, b => by
    have e : lo = hi := by omega
    subst e
    exact ⟨h1, a, b⟩
  | fuel + 1, lo, hi, h1, h2, h3, a, b => by
    unfold SetTable.below.go
    by_cases h : lo < hi
    · rw [if_pos h]
      have hm : (lo + hi) / 2 < xs.size := by omega
      have em : xs[(lo + hi) / 2]? = some xs[(lo + hi) / 2] := by simp [hm]
      have eg : xs.getD ((lo + hi) / 2) j = xs[(lo + hi) / 2] := by simp [Array.getD, hm]
      have mono : ∀ i x, xs[i]? = some x → i < (lo + hi) / 2 → x < xs[(lo + hi) / 2] := fun i x e hi' => by
        obtain ⟨hx, ex⟩ := Array.getElem?_eq_some_iff.mp e
        have := List.pairwise_iff_getElem.mp p i ((lo + hi) / 2) (by simpa using hx) (by simpa using hm) hi'
        simpa [ex] using this
      have mono2 : ∀ i x, xs[i]? = some x → (lo + hi) / 2 < i → xs[(lo + hi) / 2] < x := fun i x e hi' => by
        obtain ⟨hx, ex⟩ := Array.getElem?_eq_some_iff.mp e
        have := List.pairwise_iff_getElem.mp p ((lo + hi) / 2) i (by simpa using hm) (by simpa using hx) hi'
        simpa [ex] using this
      dsimp only
      rw [eg]
      by_cases c : xs[(lo + hi) / 2] < j
      · rw [if_pos c]
        refine below_go p fuel ((lo + hi) / 2 + 1) hi h1 (by omega) (by omega) (fun i x e h' => ?_) b
        by_cases z : i = (lo + hi) / 2
        · subst z
          rw [em] at e
          cases e
          exact c
        · have := mono i x e (by omega)
          omega
      · rw [if_neg c]
        refine below_go p fuel lo ((lo + hi) / 2) (by omega) (by omega) (by omega) a (fun i x e h' => ?_)
        by_cases z : i = (lo + hi) / 2
        · subst z
          rw [em] at e
          cases e
          omega
        · have := mono2 i x e (by omega)
          omega
    · rw [if_neg h]
      have e : lo = hi := by omega
      subst e
      exact ⟨h1, a, b⟩
theorem below_spec {xs : Array Nat} (p : xs.toList.Pairwise (· < ·)) (j : Nat) : SetTable.below xs j ≤ xs.size ∧ (∀ i x, xs[i]? = some x → i < SetTable.below xs j → x < j) ∧ ∀ i x, xs[i]? = some x → SetTable.below xs j ≤ i → j ≤ x := by
  unfold SetTable.below
  refine below_go p xs.size 0 xs.size (Nat.le_refl _) (Nat.zero_le _) (by omega) (fun i x _ h => by omega) (fun i x e h => ?_)
  obtain ⟨hx, _⟩ := Array.getElem?_eq_some_iff.mp e
  omega
/-- from the place behind the i-th on, the next is the one behind it -/
theorem below_next {xs : Array Nat} (p : xs.toList.Pairwise (· < ·)) {i x : Nat} (e : xs[i]? = some x) : SetTable.below xs (x + 1) = i + 1 := by
  obtain ⟨h1, h2, h3⟩ := below_spec p (x + 1)
  obtain ⟨hi, ex⟩ := Array.getElem?_eq_some_iff.mp e
  have a : i < SetTable.below xs (x + 1) := by
    rcases Nat.lt_or_ge i (SetTable.below xs (x + 1)) with h | h
    · exact h
    · have := h3 i x e h
      omega
  rcases Nat.lt_or_ge (i + 1) (SetTable.below xs (x + 1)) with h | h
  · have hi1 : i + 1 < xs.size := by omega
    have e1 : xs[i + 1]? = some xs[i + 1] := by simp [hi1]
    have l1 := h2 (i + 1) _ e1 h
    have l2 := List.pairwise_iff_getElem.mp p i (i + 1) (by simpa using hi) (by simpa using hi1) (by omega)
    simp only [Array.getElem_toList] at l2
    omega
  · omega
theorem below_zero {xs : Array Nat} (p : xs.toList.Pairwise (· < ·)) : SetTable.below xs 0 = 0 := by
  obtain ⟨h1, h2, h3⟩ := below_spec p 0
  rcases Nat.eq_zero_or_pos (SetTable.below xs 0) with h | h
  · exact h
  · have hs : 0 < xs.size := by omega
    have := h2 0 xs[0] (by simp [hs]) h
    omega
structure TOk (t : SetTable) (n : Nat) (led : Bool) : Prop where
  fits : t.fits n = true
  led : t.led = led
  dum : t.dummies = #[]
  ris : t.plain = true → t.place.toList.Pairwise (· < ·)
theorem tok_fresh (led : Bool) : TOk (.fresh 0 0 led) 0 led := ⟨rfl, rfl, rfl, fun _ => List.Pairwise.nil⟩
theorem tok_standIn {t : SetTable} {led : Bool} (hl : t.led = led) (n : Nat) : TOk (t.standIn n) n led := ⟨SetTable.standIn_fits t n, hl, rfl, fun h => by cases h⟩
/-- a slot that the probe finds empty holds nothing -/
theorem probe_empty {t : SetTable} (hd : t.dummies = #[]) {hs : Nat → Int} {h : Int} : ∀ (fuel : Nat) (p : SetTable.Probe) (j : Nat) (d : Option Nat), p.dummy = none → SetTable.probe.go t hs h fuel p = some (.empty j d) → d = none ∧ t.slot j = .empty
  | 0, p, j, d, _, e => by cases e
  | fuel + 1, p, j, d, hp, e => by
    have nd : ∀ i, t.slot i ≠ .dummy := fun i z => by
      unfold SetTable.slot at z
      dsimp only at z
      rw [hd] at z
      split at z
      · cases z
      · split at z
        · rename_i h2
          exact absurd h2 (by simp [SetTable.has])
        · cases z
    unfold SetTable.probe.go at e
    split at e
    · rename_i hs
      cases e
      exact ⟨hp, hs⟩
    · rename_i hs
      exact absurd hs (nd _)
    · split at e
      · cases e
      · refine probe_empty hd fuel _ j d ?_ e
        unfold SetTable.advance
        split
        · exact hp
        · exact hp
theorem tok_new {t : SetTable} {n : Nat} {led : Bool} (T : TOk t n led) (es : Array (Int × Value)) (hn : es.size = n) (h : Int) (x : Value) : TOk (layNew t es h x).2.1 (layNew t es h x).1.size led := by
  unfold layNew
  split
  · rename_i slot wd hf
    dsimp only
    unfold SetTable.orStandIn
    split
    · rename_i hfit
      unfold SetTable.freeSlot at hf
      split at hf
      · rename_i j dm hpr
        cases hf
        obtain ⟨e1, e2⟩ := probe_empty T.dum _ _ j dm (by rfl) hpr
        subst e1
        refine ⟨hfit, T.led, ?_, fun hpl => ?_⟩
        · show (if SetTable.has t.dummies _ = true then _ else t.dummies) = #[]
          rw [T.dum]
          split
          · rename_i z
            exact absurd z (by simp [SetTable.has])
          · rfl
        · have p := T.ris hpl
          obtain ⟨b1, b2, b3⟩ := below_spec p j
          show (SetTable.insertAt t.place (SetTable.below t.place j) j).toList.Pairwise (· < ·)
          rw [SetTable.toList_insertAt]
          have no : t.place[SetTable.below t.place j]? ≠ some j := fun z => by
            unfold SetTable.slot at e2
            dsimp only at e2
            rw [if_pos (by rw [z]; simp)] at e2
            cases e2
          rw [List.pairwise_append]
          refine ⟨List.Pairwise.sublist (List.take_sublist _ _) p, ?_, fun a ha b hb => ?_⟩
          · rw [List.pairwise_cons]
            refine ⟨fun b hb => ?_, List.Pairwise.sublist (List.drop_sublist _ _) p⟩
            obtain ⟨k, hk⟩ := List.getElem?_of_mem hb
            rw [List.getElem?_drop] at hk
            have hk' : t.place[SetTable.below t.place j + k]? = some b := by rw [← Array.getElem?_toList]; exact hk
            have l := b3 _ b hk' (by omega)
            by_cases z : b = j
            · subst z
              obtain ⟨hx, ex⟩ := Array.getElem?_eq_some_iff.mp hk'
              by_cases hk0 : k = 0
              · subst hk0
                exact absurd hk' no
              · have hb0 : SetTable.below t.place b < t.place.size := by omega
                have l2 := List.pairwise_iff_getElem.mp p (SetTable.below t.place b) (SetTable.below t.place b + k) (by simpa using hb0) (by simpa using hx) (by omega)
                have l3 := b3 _ t.place[SetTable.below t.place b] (by simp [hb0]) (Nat.le_refl _)
                simp only [Array.getElem_toList] at l2
                omega
            · omega
          · obtain ⟨k, hk⟩ := List.getElem?_of_mem ha
            rw [List.getElem?_take] at hk
            split at hk
            · rename_i hlt
              have la := b2 k a (by rw [← Array.getElem?_toList]; exact hk) hlt
              rcases List.mem_cons.mp hb with rfl | hb
              · exact la
              · obtain ⟨k2, hk2⟩ := List.getElem?_of_mem hb
                rw [List.getElem?_drop] at hk2
                have := b3 _ b (by rw [← Array.getElem?_toList]; exact hk2) (by omega)
                omega
            · cases hk
      · cases hf
    · exact tok_standIn (t := (t.put slot).1) T.led _
  · simpa using tok_standIn T.led (es.size + 1)
theorem tok_relay {t : SetTable} {n : Nat} {led : Bool} (T : TOk t n led) (es : Array (Int × Value)) (wanted : Nat) : TOk (relayAll t es wanted).2.1 (relayAll t es wanted).1.size led := by
  unfold relayAll
  split
  · rename_i t' order hr
    dsimp only
    split
    · rename_i hc
      simp only [Bool.and_eq_true] at hc
      unfold SetTable.relaid SetTable.laid at hr
      simp only [Option.bind_eq_bind, Option.bind_eq_some_iff, Option.pure_def, Option.some.injEq, Prod.mk.injEq] at hr
      obtain ⟨owner, _, e1, _⟩ := hr
      subst e1
      refine ⟨hc.2, T.led, rfl, fun _ => ?_⟩
      dsimp only
      rw [List.pairwise_map]
      refine List.Pairwise.filterMap (R := (· < ·)) _ (fun a a' haa b hb b' hb' => ?_) List.pairwise_lt_range
      cases h1 : owner.getD a none <;> rw [h1] at hb <;> cases hb
      cases h2 : owner.getD a' none <;> rw [h2] at hb' <;> cases hb'
      exact haa
    · exact tok_standIn T.led _
  · exact tok_standIn T.led _

end Lp
namespace Lp
open PySem PySem.Spec PyProof.Rows L2
/-! A SET OF INTS, filled one by one, so that it can be walked -/
def byText (w : World) : Bool := w.params.followText "set-order"
def SetI (prog : Program) (w : World) (h : Heap) (a : Addr) (ns : List Int) : Prop :=
  ns.Nodup ∧ ∃ (o : Obj) (es : Array (Int × Value)) (ep : Nat) (t : SetTable), h.get? a = some o ∧ o.ExactSet ∧ o.data = .set es ep t ∧ ElemsOf (intKind prog w) es.toList ∧
    (∃ ms, IntsAre (es.toList.map (·.2)) ms ∧ ms.Perm ns) ∧ es.size < scanBound ∧ TOk t es.size (!byText w)
theorem ints_perm {vs vs' : List Value} (p : vs'.Perm vs) : ∀ {ns : List Int}, IntsAre vs ns → ∃ ns', IntsAre vs' ns' ∧ ns'.Perm ns := by
  induction p with
  | nil => intro ns h; exact ⟨ns, h, .refl _⟩
  | cons x _ ih =>
    intro ns h
    cases h with
    | cons n t hr =>
      obtain ⟨ns', h1, h2⟩ := ih hr
      exact ⟨n :: ns', .cons n t h1, h2.cons n⟩
  | swap x y l =>
    intro ns h
    cases h with
    | cons n t hr =>
      cases hr with
      | cons n2 t2 hr2 => exact ⟨n2 :: n :: _, .cons n2 t2 (.cons n t hr2), .swap ..⟩
  | trans _ _ ih1 ih2 =>
    intro ns h
    obtain ⟨n1, a1, b1⟩ := ih2 h
    obtain ⟨n2, a2, b2⟩ := ih1 a1
    exact ⟨n2, a2, b2.trans b1⟩
theorem ints_append : ∀ {vs ws : List Value} {ns ms : List Int}, IntsAre vs ns → IntsAre ws ms → IntsAre (vs ++ ws) (ns ++ ms)
  | _, _, _, _, .nil, h => h
  | _, _, _, _, .cons n t hr, h => .cons n t (ints_append hr h)
theorem mem_ints {prog : Program} {w : World} {k : Int} : ∀ {l : List (Int × Value)} {ms : List Int}, IntsAre (l.map (·.2)) ms → ((∃ e ∈ l, (intKind prog w).is k e.2 = true) ↔ k ∈ ms)
  | [], _, h => by cases h; simp
  | e :: r, ms, h => by
    rw [List.map_cons] at h
    generalize hv : e.2 = v at h
    cases h with
    | cons n t hr =>
      have ih := mem_ints (prog := prog) (w := w) (k := k) hr
      have hd : (intKind prog w).is k e.2 = decide (k = n) := by rw [hv]; exact KeyKind.is_eq_decide (intKind_is prog w n t) k
      rw [List.mem_cons, ← ih]
      constructor
      · rintro ⟨e', he, hk⟩
        rcases List.mem_cons.mp he with rfl | he
        · rw [hd] at hk; exact .inl (of_decide_eq_true hk)
        · exact .inr ⟨e', he, hk⟩
      · rintro (hk | ⟨e', he, hk⟩)
        · exact ⟨e, List.mem_cons_self, by rw [hd]; exact decide_eq_true hk⟩
        · exact ⟨e', List.mem_cons_of_mem _ he, hk⟩
section
variable {prog : Program} {w : World} {A : Around} {E : Value → Shared → Prop} {s : Shared}
/-- what stands in the set's object behind a store -/
theorem seti_store {h : Heap} {a : Addr} {o : Obj} {es es' : Array (Int × Value)} {ep : Nat} {t t' : SetTable} {ms ns : List Int} (ho : h.get? a = some o) (hex : o.ExactSet) (hd : o.data = .set es ep t)
    (nd : ns.Nodup) (hel : ElemsOf (intKind prog w) es'.toList) (hi : IntsAre (es'.toList.map (·.2)) ms) (hp : ms.Perm ns) (hb : es'.size < scanBound) (T : TOk t' es'.size (!byText w)) :
    (h.update a (Obj.putSet es' t')).get? a = some { o with data := .set es' (ep + 1) t' } ∧ SetI prog w (h.update a (Obj.putSet es' t')) a ns := by
  have hg : (h.update a (Obj.putSet es' t')).get? a = some { o with data := .set es' (ep + 1) t' } := by
    have q := Heap.get?_update_self (Obj.putSet es' t') ho (by rw [putSet_of es' t' hd]; rfl)
    rw [putSet_of es' t' hd] at q
    exact q
  exact ⟨hg, nd, _, es', ep + 1, t', hg, hex, rfl, hel, ⟨ms, hi, hp⟩, hb, T⟩
theorem seti_add {a : Addr} {ns : List Int} {k : Int} {tok : Tok} {Q : Bool → Shared → Prop} (S : SetI prog w s.heap a ns) (hroom : ns.length + 1 < scanBound)
    (h : ∀ h' b, Heap.SameBut a s.heap h' → SetI prog w h' a (if k ∈ ns then ns else ns ++ [k]) → Q b { s with heap := h' }) :
    wpAny (model prog w) A (setAddHashed a (.int k tok) ((intKind prog w).hash k)) Q E s := by
  obtain ⟨nd, o, es, ep, t, ho, hex, hd, hel, ⟨ms, hms, hpm⟩, hb, T⟩ := id S
  have hkey : (intKind prog w).is k (.int k tok) = true := intKind_is _ _ _ _
  have hlen : es.size = ns.length := by
    have e1 := hms.length
    rw [List.length_map, Array.length_toList] at e1
    rw [e1, hpm.length_eq]
  unfold setAddHashed setAddHashedIn
  refine wpAny_holding (wpAny_bind (wpAny_setState_of ho hd T.fits ?_))
  dsimp only
  rw [byScan_of (knd := intKind prog w) (x := .int k tok) rfl hb hel]
  simp only [↓reduceIte]
  unfold setAddByScan
  refine wpAny_bind (wpAny_bind (wpAny_rule (wpAny_bind (wpAny_setScan_of hkey ho hd T.fits hel ?_))))
  cases hr : List.findIdx? (fun e => (intKind prog w).is k e.2) es.toList with
  | some j =>
    dsimp only
    obtain ⟨hj, hpj, _⟩ := List.findIdx?_eq_some_iff_getElem.mp hr
    have hk : k ∈ ns := hpm.mem_iff.mp ((mem_ints (prog := prog) (w := w) hms).mp ⟨es.toList[j], List.getElem_mem hj, hpj⟩)
    exact wpAny_pure (wpAny_pure (h s.heap false (Heap.SameBut.refl a s.heap) (by rw [if_pos hk]; exact S)))
  | none =>
    dsimp only
    have hk : ¬ k ∈ ns := fun z => by
      obtain ⟨e, he, hp⟩ := (mem_ints (prog := prog) (w := w) hms).mpr (hpm.mem_iff.mpr z)
      have := List.findIdx?_eq_none_iff.mp hr e he
      rw [hp] at this
      cases this
    have nd' : (ns ++ [k]).Nodup := by
      rw [List.nodup_append]
      refine ⟨nd, by simp, fun x hx y hy e => ?_⟩
      rw [List.mem_singleton] at hy
      subst hy; subst e
      exact hk hx
    have way : ∀ (b : Bool) {s₁ : Shared} {Q' : Unit → Shared → Prop}, Q' () s₁ → wpAny (model prog w) A (match b with | true => rule "set.scan.the-table-gave-way" | false => pure ()) Q' E s₁ :=
      fun b s₁ Q' hq => by cases b <;> first | exact wpAny_pure hq | exact wpAny_rule hq
    have T1 := tok_new T es rfl ((intKind prog w).hash k) (.int k tok)
    have pm1 := layNew_perm t es ((intKind prog w).hash k) (.int k tok)
    generalize layNew t es ((intKind prog w).hash k) (.int k tok) = L at T1 pm1 ⊢
    obtain ⟨es1, t1, wd, gave⟩ := L
    dsimp only at T1 pm1 ⊢
    rw [Array.toList_push] at pm1
    have el1 : ElemsOf (intKind prog w) es1.toList := (hel.push hkey rfl).perm pm1
    have sz1 : es1.size = ns.length + 1 := by rw [← Array.length_toList, pm1.length_eq, List.length_append, Array.length_toList, hlen]; rfl
    have b1 : es1.size < scanBound := by rw [sz1]; exact hroom
    obtain ⟨ms1, i1, p1⟩ := ints_perm (pm1.map (·.2)) (by rw [List.map_append]; exact ints_append hms (.cons k tok .nil))
    have p1' : ms1.Perm (ns ++ [k]) := p1.trans (hpm.append_right [k])
    refine wpAny_bind (way _ ?_)
    have fin : ∀ h' b, Heap.SameBut a s.heap h' → SetI prog w h' a (ns ++ [k]) → Q b { s with heap := h' } := fun h' b hs hS => h h' b hs (by rw [if_neg hk]; exact hS)
    have tail : ∀ t2 : SetTable, TOk t2 es1.size (!byText w) → wpAny (model prog w) A (do
        storeSet a es1 t2
        if (!wd && t2.tooFull) = true then do
            (match (relayAll t2 es1 (SetTable.grown es1.size)).2.2 with | true => rule "set.scan.the-table-gave-way" | false => pure ())
            storeSet a (relayAll t2 es1 (SetTable.grown es1.size)).1 (relayAll t2 es1 (SetTable.grown es1.size)).2.1
            pure (some true)
          else pure (some true)) (fun r s' => ∃ h', r = some true ∧ s' = { s with heap := h' } ∧ Heap.SameBut a s.heap h' ∧ SetI prog w h' a (ns ++ [k])) E s := fun t2 T2 => by
      obtain ⟨g1, S1⟩ := seti_store (prog := prog) ho hex hd nd' el1 i1 p1' b1 T2
      have sb1 := Heap.SameBut.update s.heap a (Obj.putSet es1 t2)
      refine wpAny_bind (wpAny_storeSet_of ho hd ?_ (fits_of_scanBound b1))
      split
      · have pm2 := relayAll_perm t2 es1 (SetTable.grown es1.size)
        have T3 := tok_relay T2 es1 (SetTable.grown es1.size)
        generalize relayAll t2 es1 (SetTable.grown es1.size) = Rl at pm2 T3 ⊢
        obtain ⟨es2, t3, gave2⟩ := Rl
        dsimp only at pm2 T3 ⊢
        have sz2 : es2.size = es1.size := by rw [← Array.length_toList, pm2.length_eq, Array.length_toList]
        obtain ⟨ms2, i2, p2⟩ := ints_perm (pm2.map (·.2)) i1
        have b2 : es2.size < scanBound := by rw [sz2]; exact b1
        refine wpAny_bind (way _ ?_)
        refine wpAny_bind (wpAny_storeSet_of g1 rfl ?_ (fits_of_scanBound b2))
        obtain ⟨_, S2⟩ := seti_store (prog := prog) g1 hex rfl nd' (el1.perm pm2) i2 (p2.trans p1') b2 T3
        exact wpAny_pure ⟨_, rfl, rfl, sb1.trans (Heap.SameBut.update _ a _), S2⟩
      · exact wpAny_pure ⟨_, rfl, rfl, sb1, S1⟩
    have close : ∀ (r : Option Bool) (s' : Shared), (∃ h', r = some true ∧ s' = { s with heap := h' } ∧ Heap.SameBut a s.heap h' ∧ SetI prog w h' a (ns ++ [k])) →
        wpAny (model prog w) A (match r with | some added => (pure added : Sem Bool) | none => setAddHashedIn a (.int k tok) ((intKind prog w).hash k) 99999) Q E s' := by
      rintro r s' ⟨h', rfl, rfl, sb, S'⟩
      exact wpAny_pure (fin h' true sb S')
    split
    · refine wpAny_bind ?_
      rw [hashByValue_scannable 8 rfl]
      refine wpAny_pure ?_
      exact thn (tail t1 T1) fun r s' q => close r s' q
    · refine wpAny_bind (wpAny_pure ?_)
      simp only [↓reduceIte]
      exact thn (tail t1 T1) fun r s' q => close r s' q
end
end Lp
namespace Lp
open PySem PySem.Spec PyProof.Rows L2
/-! set(xs) of a list of ints -/
def dstep (acc : List Int) (k : Int) : List Int := if k ∈ acc then acc else acc ++ [k]
def ded (l : List Int) : List Int := l.foldl dstep []
theorem dstep_len (acc : List Int) (k : Int) : (dstep acc k).length ≤ acc.length + 1 := by
  unfold dstep
  split
  · omega
  · simp
theorem ded_len_go : ∀ (l acc : List Int), (l.foldl dstep acc).length ≤ acc.length + l.length
  | [], acc => by simp
  | k :: r, acc => by
    have h1 := ded_len_go r (dstep acc k)
    have h2 := dstep_len acc k
    rw [List.foldl_cons, List.length_cons]
    omega
theorem ded_len (l : List Int) : (ded l).length ≤ l.length := by
  have := ded_len_go l []
  simpa [ded] using this
theorem ded_go : ∀ (l acc : List Int), (acc ++ l).Nodup → l.foldl dstep acc = acc ++ l
  | [], acc, _ => by simp
  | k :: r, acc, h => by
    have hk : ¬ k ∈ acc := fun z => by
      rw [List.nodup_append] at h
      exact h.2.2 k z k List.mem_cons_self rfl
    rw [List.foldl_cons, dstep, if_neg hk, ded_go r (acc ++ [k]) (by simpa using h)]
    simp
theorem ded_of {l : List Int} (h : l.Nodup) : ded l = l := by
  have := ded_go l [] (by simpa using h)
  simpa [ded] using this
section
variable {prog : Program} {w : World} {A : Around} {R : Result → Shared → Prop} {I : Addr} {fp wr : List Addr} {G : Array GenState → Array GenState → Prop} {n : Nat} {P : Nat → Value → Prop} {St : Nat → Shared → Prop}
theorem SetI.keep {h h' : Heap} {a : Addr} {ns : List Int} (S : SetI prog w h a ns) (k : ∀ o, h.get? a = some o → h'.get? a = some o) : SetI prog w h' a ns := by
  obtain ⟨nd, o, es, ep, t, ho, r⟩ := S
  exact ⟨nd, o, es, ep, t, k o ho, r⟩
theorem seti_loop (Wk : WalksS prog w A.in1 I fp wr G n P St) (S : Addr) (hSf : S ∉ fp) (vals : List Int) (hval : ∀ i v, P i v → ∃ t, vals[i]? = some (vals.getD i 0) ∧ v = .int (vals.getD i 0) t) (hn : vals.length = n) (hb : n + 1 < scanBound) :
    ∀ (k i : Nat) (s : Shared), n - i = k → i ≤ n → St i s → SetI prog w s.heap S (ded (vals.take i)) →
      (∀ s', Moved (S :: wr) G s s' → SetI prog w s'.heap S (ded vals) → R (.ok (.ret .none)) s') →
      codeAny (model prog w) A (.builtin "set.update.loop" ⟨[.ref S, .ref I], []⟩) R s := by
  have hSw : S ∉ wr := fun z => hSf (Wk.sub _ z)
  have sub : ∀ b ∈ wr, b ∈ S :: wr := fun b z => List.mem_cons_of_mem _ z
  intro k
  induction k with
  | zero =>
    intro i s hk hi st hS hR
    obtain rfl : i = n := by omega
    refine codeAny_builtin PyProof.Rows.F.entry_set_update_loop ?_
    rw [Around.under_plainId PyProof.Rows.F.plain_set_update_loop _]
    show wpAny _ A.in1 (pyNext (.ref I) >>= _) _ _ s
    refine wpAny_bind (Wk.done s _ _ st fun s' hm => wpAny_pure (hR s' (hm.mono sub) ?_))
    rw [← hn, List.take_length] at hS
    exact hS.keep fun o e => hm.heap S o hSw e
  | succ k ih =>
    intro i s hk hi st hS hR
    have hlt : i < n := by omega
    refine codeAny_builtin PyProof.Rows.F.entry_set_update_loop ?_
    rw [Around.under_plainId PyProof.Rows.F.plain_set_update_loop _]
    show wpAny _ A.in1 (pyNext (.ref I) >>= _) _ _ s
    refine wpAny_bind (Wk.item i s _ _ hlt st fun v s' hP st' hm => ?_)
    obtain ⟨t, hv, rfl⟩ := hval i v hP
    have hS' : SetI prog w s'.heap S (ded (vals.take i)) := hS.keep fun o e => hm.heap S o hSw e
    show wpAny _ A.in1 (holding [Value.int (vals.getD i 0) t] (setAdd S (.int (vals.getD i 0) t)) >>= _) _ _ s'
    refine wpAny_bind (wpAny_holding ?_)
    unfold setAdd
    refine wpAny_holding (wpAny_bind ((intKind prog w).pyHash (k := vals.getD i 0) (intKind_is _ _ _ _) ?_))
    have room : (ded (vals.take i)).length + 1 < scanBound := by
      have h1 := ded_len (vals.take i)
      rw [List.length_take] at h1
      omega
    refine seti_add (s := { s' with toks := s'.toks + 1 }) hS' room fun h' b sb S2 => ?_
    have S3 : SetI prog w h' S (ded (vals.take (i + 1))) := by
      unfold ded
      rw [fold_take dstep [] hv]
      exact S2
    refine wpAny_pure ⟨plainId_quiet PyProof.Rows.F.plain_set_update_loop _, ih (i + 1) _ (by omega) hlt (Wk.frame _ s' _ _ st' (Nat.le_succ _) fun c hc o e => ?_) S3 fun s2 hm2 S4 => ?_⟩
    · rw [sb.2 c (fun z => hSf (z ▸ hc))]
      exact e
    · refine hR s2 (Moved.trans Wk.gtrans ((hm.mono sub).then_heap (Nat.le_succ _) fun c o hc e => ?_) hm2) S4
      rw [sb.2 c (fun z => hc (z ▸ List.mem_cons_self))]
      exact e
end
section
variable {prog : Program} {w : World} {A : Around} {E : Value → Shared → Prop} {s : Shared}
abbrev setObj (w : World) : Obj := { cls := .type "set", dict := none, data := .set #[] 0 (.fresh 0 0 (!byText w)) }
theorem new_set_led (a : Value) {Q₁ : Value → Shared → Prop} (h : Q₁ (.ref s.heap.objs.size) { s with heap := s.heap.push (setObj w) }) :
    codeAny (model prog w) A (.call (.builtin "set.__new__") ⟨[.type "set", a], []⟩) (wants Q₁ E) s := by
  refine codeAny_of_tree ?_
  show wpAny _ A.in1 (do checkBuiltinCall "set.__new__" ⟨[.type "set", a], []⟩; again (.builtin "set.__new__" ⟨[.type "set", a], []⟩)) _ _ s
  refine wpAny_bind (wpAny_of_eq (PySem.F.newCall_set_1 a) (wpAny_pure ⟨plainId_quiet PySem.F.plain_set_new _, codeAny_builtin PySem.F.entry_set_new ?_⟩))
  rw [Around.under_plainId PySem.F.plain_set_new _]
  unfold Builtin.«set.__new__» Builtin.Frozenset.newClass
  have hsub := sub_set_self
  obtain ⟨hp, g, d, tk, os⟩ := s
  dsimp only
  wp_walk
  refine wpAny_askSetting (wpAny_pure ?_)
  dsimp only
  simp only [newObj]
  exact wpAny_bind (wpAny_alloc (wpAny_pure (wpAny_pure h)))
set_option maxHeartbeats 3200000 in
theorem set_of_ints {l : Addr} {items : Array Value} {vals : List Int} {Q : Value → Shared → Prop} (hh : A.handled = none) (hl : s.heap.IsList l items) (hi : IntsAre items.toList vals) (hb : items.size + 1 < scanBound)
    (h : ∀ (h' : Heap) (tk : Nat), SetI prog w h' s.heap.objs.size (ded vals) → (∀ b o, s.heap.get? b = some o → h'.get? b = some o) → Q (.ref s.heap.objs.size) { s with heap := h', toks := tk }) :
    wpAny (model prog w) A (call (.type "set") [.ref l]) Q E s := by
  obtain ⟨c, tl, hmro⟩ := PySem.F.called_set.mro
  have hmade := PySem.F.called_set.made
  have hsub := PySem.F.called_set.sub
  refine wpAny_call (codeAny_of_tree ?_)
  show wpAny _ _ (callAny (.type "set") _) _ _ _
  refine wpAny_pure ⟨Code.quiet_builtin _ (by decide +kernel), codeAny_builtin PySem.F.entry_type_call ?_⟩
  rw [Around.under_plain (weight_type_call_type "set" [.ref l] []) rfl]
  have h1 := PySem.F.called_set.notType
  have h2 := PySem.F.called_set.canCreate
  have hct := PySem.F.typeCall_set_1 (.ref l)
  repeat (any_goals (first | assumption | wp_step))
  refine codeAny_mono (new_set_led (.ref l) (E := E) (Q₁ := fun obj s₁ => obj = .ref s.heap.objs.size ∧ s₁ = { s with heap := s.heap.push (setObj w) }) ⟨rfl, rfl⟩) fun r s₁ hr => ?_
  cases r with
  | error e => exact hr
  | ok fl =>
    cases fl with
    | ret obj =>
      obtain ⟨rfl, rfl⟩ := hr
      have hS : (s.heap.push (setObj w)).get? s.heap.objs.size = some (setObj w) := Heap.get?_push_size _ rfl
      have hT : Shared.TypeIs { s with heap := s.heap.push (setObj w) } (.ref s.heap.objs.size) "set" := ⟨_, hS, rfl⟩
      have hli := PySem.F.called_set.init.lookup
      have hbi := PySem.F.called_set.init.bind (.ref s.heap.objs.size)
      repeat (any_goals (first | assumption | wp_step))
      refine codeAny_mono (codeAny_call_builtin (R := wants (fun r s₂ => r = .none ∧ ∃ h' tk, s₂ = { s with heap := h', toks := tk } ∧ SetI prog w h' s.heap.objs.size (ded vals) ∧
        (∀ b o, s.heap.get? b = some o → h'.get? b = some o)) E) PySem.F.called_set.init.plain PySem.F.entry_set_init (check_set_init_1 hT ?_)) fun r₂ s₂ hr₂ => ?_
      · obtain ⟨ol, hol, hcl, nl, hdl⟩ := hl
        obtain ⟨oc, od, odt, osl⟩ := ol
        simp only at hcl hdl
        subst hcl; subst hdl
        have hol' : (s.heap.push (setObj w)).get? l = some { cls := .type "list", dict := od, data := .seq items nl, slots := osl } := Heap.get?_push_of_some _ hol
        have hsls := PySem.F.sub_list_set
        have hslf := PySem.F.sub_list_frozenset
        have hne : (Value.type "list" == Value.type "dict") = false := by decide
        have hl1 : (s.heap.push (setObj w)).IsList l items := ⟨_, hol', rfl, nl, rfl⟩
        unfold Builtin.«set.__init__» noKeywords Builtin.Frozenset.updateFrom
        generalize hPI : pyIter = PI
        wp_walk
        subst hPI
        refine wpAny_pyIter_list hl1 ?_
        refine wpAny_bind (wpAny_runValue ?_)
        have hlS : l < s.heap.objs.size := Heap.lt_size hol
        have hh3 : A.in1.in1.in1.handled = none := by simp [hh]
        have hneI : l ≠ (s.heap.push (setObj w)).objs.size := by rw [Heap.size_push]; exact Nat.ne_of_lt (Nat.lt_succ_of_lt hlS)
        have hSf : s.heap.objs.size ∉ [(s.heap.push (setObj w)).objs.size, l] := by
          rw [Heap.size_push]
          simp only [List.mem_cons, List.not_mem_nil, or_false, not_or]
          exact ⟨Nat.ne_of_lt (Nat.lt_succ_self _), Nat.ne_of_gt hlS⟩
        have hvl : vals.length = items.size := by have := hi.length; rw [Array.length_toList] at this; exact this.symm
        have hval : ∀ (i : Nat) (v : Value), items[i]? = some v → ∃ t, vals[i]? = some (vals.getD i 0) ∧ v = .int (vals.getD i 0) t := fun i v hv => by
          obtain ⟨t, e⟩ := PyProof.Rows.IntsAre.int_at hi i v (by rw [Array.getElem?_toList]; exact hv)
          have hlt : i < vals.length := by rw [hvl]; exact (Array.getElem?_eq_some_iff.mp hv).1
          exact ⟨t, by rw [List.getElem?_eq_getElem hlt, List.getD_eq_getElem?_getD, List.getElem?_eq_getElem hlt]; rfl, e⟩
        refine seti_loop ((Walks.list hh3 _ l hneI items).toS) s.heap.objs.size hSf vals hval hvl hb (items.size - 0) 0 _ (by omega) (Nat.zero_le _) ⟨⟨_, Heap.get?_push_size _ rfl, rfl, rfl⟩, (hl1.push _)⟩ ?hS0 ?hR
        case hS0 =>
          refine ⟨List.nodup_nil, setObj w, #[], 0, .fresh 0 0 (!byText w), Heap.get?_push_of_some _ hS, ⟨rfl, rfl, rfl⟩, rfl, fun e he => by simp at he, ⟨[], .nil, .refl _⟩, by decide, tok_fresh _⟩
        case hR =>
          intro s' hm hS'
          obtain ⟨h', g', d', tk', os'⟩ := s'
          have eg : g' = s.gens := hm.gens
          have ed : d' = s.drawn := hm.drawn
          have eo : os' = s.os := hm.os
          subst eg; subst ed; subst eo
          show wpAny _ _ _ _ _ _
          refine wpAny_pure ?_
          show wpAny _ _ (ret Value.none) _ _ _
          refine wpAny_pure ⟨rfl, h', tk', rfl, hS', fun b o e => ?_⟩
          have hb := Heap.lt_size e
          have hb2 : b ≠ (s.heap.push (setObj w)).objs.size := by rw [Heap.size_push]; exact Nat.ne_of_lt (Nat.lt_succ_of_lt hb)
          exact hm.heap b o (by simp only [List.mem_cons, List.not_mem_nil, or_false, not_or]; exact ⟨Nat.ne_of_lt hb, hb2⟩) (Heap.get?_push_of_some _ (Heap.get?_push_of_some _ e))
      · cases r₂ with
        | error e => exact hr₂
        | ok fl₂ =>
          cases fl₂ with
          | ret r =>
            obtain ⟨rfl, h', tk, rfl, hS', hk'⟩ := hr₂
            repeat (any_goals (first | assumption | wp_step))
            exact h _ _ hS' hk'
          | _ => exact hr₂.elim
    | _ => exact hr.elim
end
end Lp
namespace Lp
open PySem PySem.Spec PyProof.Rows L2
theorem slot_setit_next : Slot "set_iterator" "__next__" "set_iterator.__next__" :=
  .of (owner := "set_iterator") (n := "__next__") (by rw [typeLookup_type, builtinLookup_eq_fast]; kernel_rfl) (by decide +kernel) (by decide +kernel) (by decide +kernel)
    (by first | exact .inl (by decide +kernel) | exact .inr (by decide +kernel)) (by rw [isSubtype_type]; kernel_rfl)
theorem entry_setit_next : entryFor table "set_iterator.__next__" = some Builtin.«set_iterator.__next__» := entryFor_of_tree (by kernel_rfl)
theorem args_setit_next (a : Value) : argsOk "set_iterator.__next__" ⟨[a], []⟩ := by unfold argsOk; kernel_rfl
theorem entry_set_iter : entryFor table "set.__iter__" = some Builtin.«frozenset.__iter__» :=
  entryFor_alias (id' := "frozenset.__iter__") (by kernel_rfl) rfl (by decide +kernel) (by kernel_rfl)
abbrev IsSetIter (h : Heap) (it : Addr) (first : Value) (i : Nat) (a : Addr) (n ep : Nat) : Prop :=
  h.get? it = some { cls := .type "set_iterator", dict := none, data := .fields #[first, .int i 0, .ref a, .int n 0, .int ep 0], slots := #[] }
section
variable {prog : Program} {w : World} {A : Around} {E : Value → Shared → Prop} {s : Shared}
theorem wpAny_choose {M : Model} {src : Source} {n : Nat} {Q : Nat → Shared → Prop} (hn : n ≠ 0) (h : ∀ i d, i < n → Q i { s with drawn := d }) : wpAny M A (choose src n) Q E s := fun Γ p hΓ => ⟨hn, h _ _ (Nat.mod_lt _ (Nat.pos_of_ne_zero hn))⟩
theorem stop_it {Q : Option Value → Shared → Prop} (hh : A.handled = none) (h : ∀ h', (∀ b o, s.heap.get? b = some o → h'.get? b = some o) → Q none { s with heap := h' }) :
    wpAny (model prog w) A.in1 (do let e ← newExc (Value.type "StopIteration") []; raiseNew e : Sem Fin) (fun fin s' => ∃ v, fin = Fin.done (Flow.ret v) ∧ wpAny (model prog w) A (pure (some v)) Q E s')
      (fun e s' => wpAny (model prog w) A (do let b ← isInstance e (Value.type "StopIteration"); if b = true then pure none else throw e) Q E s') s := by
  refine wpAny_bind ?_
  simp only [newExc, newTuple]
  refine wpAny_bind (wpAny_newObj_type ?_ (by size_fits))
  refine wpAny_bind (m := firstArgMember _ _) (wpAny_of_eq (a := Value.none) (by first | rfl | (simp only [firstArgMember]; rfl)) ?_)
  refine wpAny_newObj_type ?_ (by size_fits)
  simp only [raiseNew]
  refine wpAny_bind (wpAny_handled ?_)
  rw [show A.in1.handled = none from hh]
  refine wpAny_bind (wpAny_pure (wpAny_throw ?_))
  refine wpAny_bind (wpAny_isInstance (T := "StopIteration") (b := true) ⟨_, Heap.get?_push_size _ rfl, rfl⟩ isSubtype_stop ?_)
  exact wpAny_pure (h _ fun b o e => Heap.get?_push_of_some _ (Heap.get?_push_of_some _ e))
theorem setit_item {it a : Addr} {slot nx i n ep : Nat} {o : Obj} {es : Array (Int × Value)} {t : SetTable} {x : Value} {Q : Option Value → Shared → Prop} (hit : IsSetIter s.heap it (.int slot 0) i a n ep)
    (ho : s.heap.get? a = some o) (hd : o.data = .set es ep t) (hf : t.fits es.size = true) (hn : es.size = n)
    (hnx : ∀ (A : Around) (E : Value → Shared → Prop) (Q : Option (Value × Nat) → Shared → Prop), Q (some (x, nx)) s → wpAny (model prog w) A (setNext a slot i ep) Q E s)
    (hQ : ∀ h', IsSetIter h' it (.int nx 0) (i + 1) a n ep → Heap.SameBut it s.heap h' → Q (some x) { s with heap := h' }) : wpAny (model prog w) A (pyNext (.ref it)) Q E s := by
  have hT : s.TypeIs (.ref it) "set_iterator" := ⟨_, hit, rfl⟩
  unfold pyNext
  refine wpAny_bind (wpAny_attempt (wpAny_callSpecial?_slot (name := Str.ofString "__next__") hT slot_setit_next (wpAny_call_entry slot_setit_next hT entry_setit_next ?_ (args_setit_next _))))
  unfold Builtin.«set_iterator.__next__»
  refine wpAny_bind (wpAny_pure (wpAny_bind (wpAny_fieldsOf hit rfl ?_)))
  dsimp only
  refine wpAny_bind (wpAny_setEntries_of ho hd hf ?_)
  rw [if_neg (by rw [hn]; simp)]
  simp only [Int.toNat_natCast]
  refine wpAny_bind (hnx _ _ _ ?_)
  dsimp only
  refine wpAny_bind (wpAny_setField_rec hit (by simp) fun h₁ he₁ hs₁ => wpAny_bind (wpAny_setField_rec he₁ (by simp) fun h₂ he₂ hs₂ => ?_))
  refine wpAny_pure ⟨x, rfl, wpAny_pure (hQ h₂ ?_ (hs₁.trans hs₂))⟩
  have e : ((i + 1 : Nat) : Int) = (i : Int) + 1 := by omega
  show h₂.get? it = _
  rw [he₂, e]
  simp [rawInt]
theorem setit_end {it a : Addr} {slot i n ep : Nat} {o : Obj} {es : Array (Int × Value)} {t : SetTable} {Q : Option Value → Shared → Prop} (hh : A.handled = none) (hit : IsSetIter s.heap it (.int slot 0) i a n ep)
    (ho : s.heap.get? a = some o) (hd : o.data = .set es ep t) (hf : t.fits es.size = true) (hn : es.size = n)
    (hnx : ∀ (A : Around) (E : Value → Shared → Prop) (Q : Option (Value × Nat) → Shared → Prop), Q none s → wpAny (model prog w) A (setNext a slot i ep) Q E s)
    (hQ : ∀ h', (∀ b o, b ≠ it → s.heap.get? b = some o → h'.get? b = some o) → Q none { s with heap := h' }) : wpAny (model prog w) A (pyNext (.ref it)) Q E s := by
  have hT : s.TypeIs (.ref it) "set_iterator" := ⟨_, hit, rfl⟩
  unfold pyNext
  refine wpAny_bind (wpAny_attempt (wpAny_callSpecial?_slot (name := Str.ofString "__next__") hT slot_setit_next (wpAny_call_entry slot_setit_next hT entry_setit_next ?_ (args_setit_next _))))
  unfold Builtin.«set_iterator.__next__»
  refine wpAny_bind (wpAny_pure (wpAny_bind (wpAny_fieldsOf hit rfl ?_)))
  dsimp only
  refine wpAny_bind (wpAny_setEntries_of ho hd hf ?_)
  rw [if_neg (by rw [hn]; simp)]
  simp only [Int.toNat_natCast]
  refine wpAny_bind (hnx _ _ _ ?_)
  dsimp only
  refine wpAny_bind (wpAny_setField_rec hit (by simp) fun h₁ he₁ hs₁ => ?_)
  exact stop_it (s := { s with heap := h₁ }) hh fun h' k => hQ h' fun b o hb e => k b o (hs₁.extBut b o hb e)
theorem setNext_plain {a : Addr} {slot i ep : Nat} {o : Obj} {es : Array (Int × Value)} {t : SetTable} {Q : Option (Value × Nat) → Shared → Prop} (ho : s.heap.get? a = some o) (hd : o.data = .set es ep t) (T : TOk t es.size (!byText w)) (hb : byText w = false)
    (hpl : t.plain = true ∨ es.size ≤ 1) (h : Q (match es[SetTable.below t.place slot]?, t.place[SetTable.below t.place slot]? with | some (_, x), some j => some (x, j + 1) | _, _ => none) s) : wpAny (model prog w) A (setNext a slot i ep) Q E s := by
  unfold setNext setsByText
  refine wpAny_bind (wpAny_setState_of ho hd T.fits ?_)
  dsimp only
  refine wpAny_bind (wpAny_bind (wpAny_askSetting (wpAny_pure ?_)))
  rw [if_neg (show ¬ ((model prog w).w.params.followText "set-order" = true) from by show ¬ (byText w = true); rw [hb]; simp)]
  refine wpAny_ite_split (fun hab => ?_) (fun _ => ?_)
  · have hab' : (!t.plain && decide (es.size > 1)) = true := hab
    rw [Bool.and_eq_true] at hab'
    rcases hpl with z | z
    · rw [z] at hab'
      cases hab'.1
    · have := of_decide_eq_true hab'.2
      omega
  · have hled : t.led = true := by rw [T.led, hb]; rfl
    refine wpAny_bind ?_
    show wpAny _ _ (if (!t.led && !es.isEmpty) = true then unsupported "set:maker-not-led" else pure ()) _ _ s
    rw [if_neg (by rw [hled]; simp)]
    exact wpAny_pure (wpAny_pure h)
theorem setNext_text {a : Addr} {slot i ep : Nat} {o : Obj} {es : Array (Int × Value)} {t : SetTable} {Q : Option (Value × Nat) → Shared → Prop} (ho : s.heap.get? a = some o) (hd : o.data = .set es ep t) (T : TOk t es.size (!byText w)) (hb : byText w = true)
    (h : Q (((pickOrder (w.params.setOrder a ep) es)[i]?).map fun e => (e.2, slot)) s) : wpAny (model prog w) A (setNext a slot i ep) Q E s := by
  have hbt : (model prog w).w.params.followText "set-order" = true := hb
  unfold setNext setsByText
  refine wpAny_bind (wpAny_setState_of ho hd T.fits ?_)
  dsimp only
  refine wpAny_bind (wpAny_bind (wpAny_askSetting (wpAny_pure ?_)))
  rw [if_pos hbt]
  rw [if_neg (by simp)]
  refine wpAny_bind ?_
  unfold setWalk setsByText
  refine wpAny_bind (wpAny_setState_of ho hd T.fits ?_)
  dsimp only
  refine wpAny_bind (wpAny_bind (wpAny_askSetting (wpAny_pure ?_)))
  rw [if_pos hbt]
  refine wpAny_bind (wpAny_askSetting (wpAny_pure (wpAny_pure h)))
end
/-! the order by a text is an order -/
theorem erase_perm {α : Type} : ∀ (l : List α) (i : Nat) (h : i < l.length), (l[i] :: l.eraseIdx i).Perm l
  | x :: r, 0, _ => by simp
  | x :: r, i + 1, h => by
    have ih := erase_perm r i (by simpa using h)
    rw [List.eraseIdx_cons_succ, List.getElem_cons_succ]
    exact (List.Perm.swap ..).trans (ih.cons x)
theorem pick_go {α : Type} (next : Nat → Nat) : ∀ (fuel k : Nat) (left : List α) (out : Array α), left.length = fuel → (pickOrder.go next fuel k left out).toList.Perm (out.toList ++ left)
  | 0, k, left, out, h => by
    have e : left = [] := List.length_eq_zero_iff.mp h
    subst e
    simp [pickOrder.go]
  | fuel + 1, k, left, out, h => by
    unfold pickOrder.go
    have hlt : next k % left.length < left.length := Nat.mod_lt _ (by omega)
    rw [List.getElem?_eq_getElem hlt]
    dsimp only
    refine (pick_go next fuel (k + 1) _ _ (by rw [List.length_eraseIdx_of_lt hlt]; omega)).trans ?_
    rw [Array.toList_push, List.append_assoc]
    refine List.Perm.append_left _ ?_
    exact erase_perm left _ hlt
theorem pick_perm {α : Type} (next : Nat → Nat) (xs : Array α) : (pickOrder next xs).toList.Perm xs.toList := by
  unfold pickOrder
  simpa using pick_go next xs.size 0 xs.toList #[] (by simp)
section
variable {prog : Program} {w : World} {A : Around} {E : Value → Shared → Prop} {s : Shared}
theorem draw_perm {α : Type} {Q : List α → Shared → Prop} : ∀ (n : Nat) (xs : List α) (s : Shared), xs.length = n → (∀ ys d, ys.Perm xs → Q ys { s with drawn := d }) → wpAny (model prog w) A (drawOrder n xs) Q E s
  | 0, xs, s, h, hQ => by
    have e : xs = [] := List.length_eq_zero_iff.mp h
    subst e
    exact wpAny_pure (hQ [] s.drawn (.refl _))
  | n + 1, [], s, h, hQ => by cases h
  | n + 1, x :: r, s, h, hQ => by
    unfold drawOrder
    refine wpAny_bind (wpAny_choose (by simp) fun i d hi => ?_)
    rw [List.getElem?_eq_getElem hi]
    dsimp only
    refine wpAny_bind (draw_perm (Q := fun ys s' => wpAny (model prog w) A (pure ((x :: r)[i] :: ys)) Q E s') n ((x :: r).eraseIdx i) _ (by rw [List.length_eraseIdx_of_lt hi]; omega) fun ys d' p => wpAny_pure ?_)
    exact hQ _ d' ((p.cons _).trans (erase_perm _ i hi))
end
theorem slot_setit_iter : Slot "set_iterator" "__iter__" "set_iterator.__iter__" :=
  .of (owner := "set_iterator") (n := "__iter__") (by rw [typeLookup_type, builtinLookup_eq_fast]; kernel_rfl) (by decide +kernel) (by decide +kernel) (by decide +kernel)
    (by first | exact .inl (by decide +kernel) | exact .inr (by decide +kernel)) (by rw [isSubtype_type]; kernel_rfl)
theorem entry_setit_iter : entryFor table "set_iterator.__iter__" = some Builtin.«dict_keyiterator.__iter__» :=
  entryFor_alias (id' := "dict_keyiterator.__iter__") (by kernel_rfl) rfl (by decide +kernel) (by kernel_rfl)
theorem args_setit_iter (a : Value) : argsOk "set_iterator.__iter__" ⟨[a], []⟩ := by unfold argsOk; kernel_rfl
abbrev setIt (first : Value) (i : Nat) (a : Addr) (n ep : Nat) : Obj := { cls := .type "set_iterator", dict := none, data := .fields #[first, .int i 0, .ref a, .int n 0, .int ep 0], slots := #[] }
abbrev placesObj (ps : List Nat) : Obj := { cls := .type "tuple", data := .seq (ps.map fun i : Nat => rawInt i).toArray }
section
variable {prog : Program} {w : World} {A : Around} {E : Value → Shared → Prop} {s : Shared}
theorem setit_self {it a : Addr} {first : Value} {i n ep : Nat} {Q : Value → Shared → Prop} (hit : IsSetIter s.heap it first i a n ep) (h : Q (.ref it) s) : wpAny (model prog w) A (pyIter (.ref it)) Q E s := by
  have hT : s.TypeIs (.ref it) "set_iterator" := ⟨_, hit, rfl⟩
  refine wpAny_pyIter_slot hT slot_setit_iter (wpAny_call_entry slot_setit_iter hT entry_setit_iter ?_ (args_setit_iter _))
  show wpAny _ _ (ret (.ref it)) _ _ s
  exact wpAny_pure ⟨_, rfl, "set_iterator", _, hT, slot_setit_next.lookup, h⟩
theorem setit_itemD {it a T : Addr} {i n ep p : Nat} {o : Obj} {es : Array (Int × Value)} {t : SetTable} {ps : List Nat} {e : Int × Value} {Q : Option Value → Shared → Prop} (hit : IsSetIter s.heap it (.ref T) i a n ep) (hTp : s.heap.get? T = some (placesObj ps))
    (ho : s.heap.get? a = some o) (hd : o.data = .set es ep t) (hf : t.fits es.size = true) (hn : es.size = n) (hp : ps[i]? = some p) (he : es[p]? = some e)
    (hQ : ∀ h', IsSetIter h' it (.ref T) (i + 1) a n ep → Heap.SameBut it s.heap h' → Q (some e.2) { s with heap := h' }) : wpAny (model prog w) A (pyNext (.ref it)) Q E s := by
  have hT : s.TypeIs (.ref it) "set_iterator" := ⟨_, hit, rfl⟩
  unfold pyNext
  refine wpAny_bind (wpAny_attempt (wpAny_callSpecial?_slot (name := Str.ofString "__next__") hT slot_setit_next (wpAny_call_entry slot_setit_next hT entry_setit_next ?_ (args_setit_next _))))
  unfold Builtin.«set_iterator.__next__»
  refine wpAny_bind (wpAny_pure (wpAny_bind (wpAny_fieldsOf hit rfl ?_)))
  dsimp only
  refine wpAny_bind (wpAny_setEntries_of ho hd hf ?_)
  rw [if_neg (by rw [hn]; simp)]
  refine wpAny_bind (wpAny_seqItems hTp rfl ?_)
  have hx : (ps.map fun i : Nat => rawInt i).toArray[((i : Nat) : Int).toNat]? = some (rawInt p) := by simp [hp]
  dsimp only
  rw [hx]
  show wpAny _ _ (setNextDrawn a ((p : Nat) : Int).toNat ((ep : Nat) : Int).toNat >>= _) _ _ s
  simp only [Int.toNat_natCast]
  refine wpAny_bind ?_
  unfold setNextDrawn
  refine wpAny_bind (wpAny_setState_of ho hd hf ?_)
  dsimp only
  rw [if_neg (by simp)]
  rw [he]
  refine wpAny_pure ?_
  refine wpAny_bind (wpAny_setField_rec hit (by simp) fun h₁ he₁ hs₁ => ?_)
  refine wpAny_pure ⟨e.2, rfl, wpAny_pure (hQ h₁ ?_ hs₁)⟩
  have e1 : ((i + 1 : Nat) : Int) = (i : Int) + 1 := by omega
  show h₁.get? it = _
  rw [he₁, e1]
  simp [rawInt]
theorem setit_endD {it a T : Addr} {i n ep : Nat} {o : Obj} {es : Array (Int × Value)} {t : SetTable} {ps : List Nat} {Q : Option Value → Shared → Prop} (hh : A.handled = none) (hit : IsSetIter s.heap it (.ref T) i a n ep) (hTp : s.heap.get? T = some (placesObj ps))
    (ho : s.heap.get? a = some o) (hd : o.data = .set es ep t) (hf : t.fits es.size = true) (hn : es.size = n) (hp : ps[i]? = none)
    (hQ : ∀ h', (∀ b o, b ≠ it → s.heap.get? b = some o → h'.get? b = some o) → Q none { s with heap := h' }) : wpAny (model prog w) A (pyNext (.ref it)) Q E s := by
  have hT : s.TypeIs (.ref it) "set_iterator" := ⟨_, hit, rfl⟩
  unfold pyNext
  refine wpAny_bind (wpAny_attempt (wpAny_callSpecial?_slot (name := Str.ofString "__next__") hT slot_setit_next (wpAny_call_entry slot_setit_next hT entry_setit_next ?_ (args_setit_next _))))
  unfold Builtin.«set_iterator.__next__»
  refine wpAny_bind (wpAny_pure (wpAny_bind (wpAny_fieldsOf hit rfl ?_)))
  dsimp only
  refine wpAny_bind (wpAny_setEntries_of ho hd hf ?_)
  rw [if_neg (by rw [hn]; simp)]
  refine wpAny_bind (wpAny_seqItems hTp rfl ?_)
  have hx : (ps.map fun i : Nat => rawInt i).toArray[((i : Nat) : Int).toNat]? = none := by simpa using hp
  dsimp only
  rw [hx]
  dsimp only
  refine wpAny_bind (wpAny_setField_rec hit (by simp) fun h₁ he₁ hs₁ => wpAny_bind (wpAny_setField_rec he₁ (by simp) fun h₂ he₂ hs₂ => ?_))
  exact stop_it (s := { s with heap := h₂ }) hh fun h' k => hQ h' fun b o hb e => k b o (hs₂.extBut b o hb (hs₁.extBut b o hb e))
theorem iter_set {a : Addr} {o : Obj} {es : Array (Int × Value)} {ep : Nat} {t : SetTable} {Q : Value → Shared → Prop} (ho : s.heap.get? a = some o) (hex : o.ExactSet) (hd : o.data = .set es ep t) (hb : es.size < scanBound) (T : TOk t es.size (!byText w))
    (h1 : (byText w = true ∨ t.plain = true ∨ es.size ≤ 1) → Q (.ref s.heap.objs.size) { s with heap := s.heap.push (setIt (.int 0 0) 0 a es.size ep) })
    (h2 : byText w = false → ∀ ps d, ps.Perm (List.range es.size) → Q (.ref (s.heap.objs.size + 1)) { s with heap := (s.heap.push (placesObj ps)).push (setIt (.ref s.heap.objs.size) 0 a es.size ep), drawn := d }) :
    wpAny (model prog w) A (pyIter (.ref a)) Q E s := by
  have hT : s.TypeIs (.ref a) "set" := ⟨_, ho, hex.1⟩
  refine wpAny_pyIter_slot hT PySem.F.slot_set_iter (wpAny_call_entry PySem.F.slot_set_iter hT entry_set_iter ?_ (PySem.F.args_set_iter_1 _))
  unfold Builtin.«frozenset.__iter__»
  refine wpAny_bind (wpAny_pure ?_)
  refine wpAny_bind ?_
  unfold Builtin.Frozenset.sizeOf
  refine wpAny_bind (wpAny_setEntries_of ho hd T.fits (wpAny_pure ?_))
  refine wpAny_bind ?_
  unfold setDrawn setsByText
  refine wpAny_bind (wpAny_setState_of ho hd T.fits ?_)
  dsimp only
  refine wpAny_bind (wpAny_bind (wpAny_askSetting (wpAny_pure (wpAny_pure ?_))))
  refine wpAny_ite_split (fun hc => ?_) (fun hc => ?_)
  · have hc' : ((!byText w) && (!t.plain && decide (es.size > 1))) = true := hc
    have hbf : byText w = false := by
      rw [Bool.and_eq_true] at hc'
      simpa using hc'.1
    refine wpAny_bind (draw_perm _ _ s List.length_range fun ps d p => ?_)
    have hpl : ps.length = es.size := by rw [p.length_eq, List.length_range]
    refine wpAny_bind (wpAny_newTuple ?_ (by rw [List.length_map, hpl]; exact fits_of_scanBound hb))
    refine wpAny_bind (wpAny_setEpoch_of (s := { s with heap := s.heap.push (placesObj ps), drawn := d }) (Heap.get?_push_of_some _ ho) hd T.fits ?_)
    refine wpAny_bind (wpAny_newObj_type (wpAny_pure ⟨_, rfl, "set_iterator", _, ⟨_, Heap.get?_push_size _ rfl, rfl⟩, slot_setit_next.lookup, ?_⟩))
    have q := h2 hbf ps d p
    have ez : (s.heap.push (placesObj ps)).objs.size = s.heap.objs.size + 1 := Heap.size_push ..
    rw [← ez] at q
    exact q
  · have hc' : ¬ ((!byText w) && (!t.plain && decide (es.size > 1))) = true := hc
    refine wpAny_bind (wpAny_pure ?_)
    refine wpAny_bind (wpAny_setEpoch_of ho hd T.fits ?_)
    refine wpAny_bind (wpAny_newObj_type (wpAny_pure ⟨_, rfl, "set_iterator", _, ⟨_, Heap.get?_push_size _ rfl, rfl⟩, slot_setit_next.lookup, ?_⟩))
    have q := h1 (by
      by_cases z : byText w = true
      · exact .inl z
      · by_cases y : t.plain = true
        · exact .inr (.inl y)
        · refine .inr (.inr ?_)
          rcases Nat.lt_or_ge 1 es.size with u | u
          · exact absurd (by simp [z, y, u]) hc'
          · exact u)
    exact q
theorem walk_slots (hh : A.handled = none) {I a : Addr} (hne : a ≠ I) {o : Obj} {es : Array (Int × Value)} {ep : Nat} {t : SetTable} (hd : o.data = .set es ep t) (hf : t.fits es.size = true) {out : List Value} (hout : out.length = es.size) (slot : Nat → Nat)
    (hitem : ∀ i v, out[i]? = some v → ∀ s : Shared, s.heap.get? a = some o → ∀ (A : Around) (E : Value → Shared → Prop) (Q : Option (Value × Nat) → Shared → Prop), Q (some (v, slot (i + 1))) s → wpAny (model prog w) A (setNext a (slot i) i ep) Q E s)
    (hend : ∀ s : Shared, s.heap.get? a = some o → ∀ (A : Around) (E : Value → Shared → Prop) (Q : Option (Value × Nat) → Shared → Prop), Q none s → wpAny (model prog w) A (setNext a (slot es.size) es.size ep) Q E s) :
    Walks prog w A I [I, a] [I] es.size (fun i v => out[i]? = some v) (fun i h => IsSetIter h I (.int (slot i) 0) i a es.size ep ∧ h.get? a = some o) where
  sub := fun b hb => by simp at hb; simp [hb]
  frame := fun _ _ _ st hk => ⟨hk I (by simp) _ st.1, hk a (by simp) _ st.2⟩
  item := fun i s Q E hi st hQ => by
    have hlt : i < out.length := by omega
    have hv : out[i]? = some out[i] := by simp [hlt]
    refine setit_item st.1 st.2 hd hf rfl (hitem i _ hv s st.2) fun h' st' sb => ?_
    exact hQ _ h' s.toks hv ⟨st', sb.extBut a o hne st.2⟩ fun b o hb e => sb.extBut b o (by simpa using hb) e
  done := fun s Q E st hQ => setit_end hh st.1 st.2 hd hf rfl (hend s st.2) fun h' k => hQ h' s.toks fun b o hb e => k b o (by simpa using hb) e
  self := fun _ _ _ _ st hQ => setit_self st.1 hQ
theorem walk_drawn (hh : A.handled = none) {I a T : Addr} (hne : a ≠ I) (hnT : T ≠ I) {o : Obj} {es : Array (Int × Value)} {ep : Nat} {t : SetTable} (hd : o.data = .set es ep t) (hf : t.fits es.size = true) {ps : List Nat} (hp : ps.Perm (List.range es.size)) :
    Walks prog w A I [I, a, T] [I] es.size (fun i v => (ps.map fun p => (es.getD p (0, .none)).2)[i]? = some v) (fun i h => IsSetIter h I (.ref T) i a es.size ep ∧ h.get? a = some o ∧ h.get? T = some (placesObj ps)) where
  sub := fun b hb => by simp at hb; simp [hb]
  frame := fun _ _ _ st hk => ⟨hk I (by simp) _ st.1, hk a (by simp) _ st.2.1, hk T (by simp) _ st.2.2⟩
  item := fun i s Q E hi st hQ => by
    have hl : ps.length = es.size := by rw [hp.length_eq, List.length_range]
    have hlt : i < ps.length := by omega
    have hv : ps[i]? = some ps[i] := by simp [hlt]
    have hpm : ps[i] < es.size := List.mem_range.mp (hp.mem_iff.mp (List.getElem_mem hlt))
    refine setit_itemD (e := es[ps[i]]) st.1 st.2.2 st.2.1 hd hf rfl hv (by simp [hpm]) fun h' st' sb => ?_
    exact hQ _ h' s.toks (by simp [hlt, Array.getD, hpm]) ⟨st', sb.extBut a o hne st.2.1, sb.extBut T _ hnT st.2.2⟩ fun b o hb e => sb.extBut b o (by simpa using hb) e
  done := fun s Q E st hQ => by
    have hl : ps.length = es.size := by rw [hp.length_eq, List.length_range]
    exact setit_endD hh st.1 st.2.2 st.2.1 hd hf rfl (by simp [hl]) fun h' k => hQ h' s.toks fun b o hb e => k b o (by simpa using hb) e
  self := fun _ _ _ _ st hQ => setit_self st.1 hQ
/-- the walk over a set of ints: an iterator has come, that gives each member once -/
theorem seti_iter {a : Addr} {ns : List Int} {Q : Value → Shared → Prop} (S : SetI prog w s.heap a ns) (hh : A.handled = none)
    (h : ∀ (I : Addr) (h' : Heap) (d : PySem.Drawn) (fp : List Addr) (out : List Value) (ms : List Int) (St : Nat → Heap → Prop), s.heap.objs.size ≤ I → (∀ b o, s.heap.get? b = some o → h'.get? b = some o) → (∀ b ∈ fp, b < h'.objs.size ∧ (b = a ∨ s.heap.objs.size ≤ b)) →
      IntsAre out ms → ms.Perm ns → out.length ≤ sizeLine → Walks prog w A I fp [I] out.length (fun i v => out[i]? = some v) St → St 0 h' → Q (.ref I) { s with heap := h', drawn := d }) : wpAny (model prog w) A (pyIter (.ref a)) Q E s := by
  obtain ⟨nd, o, es, ep, t, ho, hex, hd, hel, ⟨ms, hms, hpm⟩, hb, T⟩ := S
  have ha : a < s.heap.objs.size := Heap.lt_size ho
  have hsz : t.place.size = es.size := by
    have := T.fits
    unfold SetTable.fits at this
    rw [Bool.and_eq_true] at this
    simpa using this.1
  refine iter_set ho hex hd hb T (fun hc => ?_) (fun hbf ps d p => ?_)
  · have fpo : ∀ b ∈ [s.heap.objs.size, a], b < (s.heap.push (setIt (.int 0 0) 0 a es.size ep)).objs.size ∧ (b = a ∨ s.heap.objs.size ≤ b) := fun b hb' => by
      rw [Heap.size_push]
      rcases List.mem_cons.mp hb' with rfl | hb'
      · exact ⟨Nat.lt_succ_self _, .inr (Nat.le_refl _)⟩
      · rw [List.mem_singleton.mp hb']
        exact ⟨Nat.lt_succ_of_lt ha, .inl rfl⟩
    by_cases hbt : byText w = true
    · have pp := pick_perm (w.params.setOrder a ep) es
      obtain ⟨ms', i', p'⟩ := ints_perm (pp.map (·.2)) hms
      have ol : ((pickOrder (w.params.setOrder a ep) es).toList.map (·.2)).length = es.size := by rw [List.length_map, pp.length_eq, Array.length_toList]
      have Wk := walk_slots (prog := prog) (w := w) (A := A) hh (Nat.ne_of_lt ha) hd T.fits ol (fun _ => 0) (fun i v hv s' ho' A' E' Q' q => setNext_text ho' hd T hbt (by
            rw [List.getElem?_map, Array.getElem?_toList] at hv
            cases e : (pickOrder (w.params.setOrder a ep) es)[i]? with
            | none => rw [e] at hv; cases hv
            | some x => rw [e] at hv; cases hv; exact q)) (fun s' ho' A' E' Q' q => setNext_text ho' hd T hbt (by
            have ol' : (pickOrder (w.params.setOrder a ep) es).size = es.size := by rw [← Array.length_toList, pp.length_eq, Array.length_toList]
            rw [Array.getElem?_eq_none (by omega)]
            exact q))
      have s0 : IsSetIter (s.heap.push (setIt (.int 0 0) 0 a es.size ep)) s.heap.objs.size (.int ((0 : Nat) : Int) 0) 0 a es.size ep := Heap.get?_push_size _ rfl
      have go := h s.heap.objs.size (s.heap.push (setIt (.int 0 0) 0 a es.size ep)) s.drawn [s.heap.objs.size, a] ((pickOrder (w.params.setOrder a ep) es).toList.map (·.2)) ms' (fun i h => IsSetIter h s.heap.objs.size (.int ((0 : Nat) : Int) 0) i a es.size ep ∧ h.get? a = some o) (Nat.le_refl _) (fun b o e => Heap.get?_push_of_some _ e) fpo i' (p'.trans hpm) (by rw [ol]; exact fits_of_scanBound hb)
      exact go (by rw [ol]; exact Wk) ⟨s0, Heap.get?_push_of_some _ ho⟩
    · have hbf : byText w = false := by simpa using hbt
      have hpl : t.plain = true ∨ es.size ≤ 1 := by
        rcases hc with z | z
        · exact absurd z hbt
        · exact z
      have ris : t.place.toList.Pairwise (· < ·) := by
        rcases hpl with z | z
        · exact T.ris z
        · rw [← hsz, ← Array.length_toList] at z
          match hq : t.place.toList, z with
          | [], _ => exact List.Pairwise.nil
          | [x], _ => simp
          | x :: y :: r, z => simp at z
      have ol : (es.toList.map (·.2)).length = es.size := by rw [List.length_map, Array.length_toList]
      have bel : ∀ i, i ≤ es.size → SetTable.below t.place (match i with | 0 => 0 | k + 1 => t.place.getD k 0 + 1) = i := fun i hi => by
        cases i with
        | zero => exact below_zero ris
        | succ k =>
          have hk : k < t.place.size := by omega
          exact below_next ris (by simp [Array.getD, hk])
      have Wk := walk_slots (prog := prog) (w := w) (A := A) hh (Nat.ne_of_lt ha) hd T.fits ol (fun i => match i with | 0 => 0 | k + 1 => t.place.getD k 0 + 1) (fun i v hv s' ho' A' E' Q' q => setNext_plain ho' hd T hbf hpl (by
            have hlt : i < es.size := by rw [← ol]; exact (List.getElem?_eq_some_iff.mp hv).1
            have hlt2 : i < t.place.size := by omega
            rw [bel i (by omega)]
            rw [List.getElem?_map, Array.getElem?_toList, Array.getElem?_eq_getElem hlt] at hv
            cases hv
            rw [Array.getElem?_eq_getElem hlt, Array.getElem?_eq_getElem hlt2]
            have eg : t.place.getD i 0 = t.place[i] := by simp [Array.getD, hlt2]
            dsimp only at q ⊢
            rw [eg] at q
            exact q)) (fun s' ho' A' E' Q' q => setNext_plain ho' hd T hbf hpl (by
            rw [bel es.size (Nat.le_refl _), Array.getElem?_eq_none (Nat.le_refl _)]
            exact q))
      have s0 : IsSetIter (s.heap.push (setIt (.int 0 0) 0 a es.size ep)) s.heap.objs.size (.int ((0 : Nat) : Int) 0) 0 a es.size ep := Heap.get?_push_size _ rfl
      have go := h s.heap.objs.size (s.heap.push (setIt (.int 0 0) 0 a es.size ep)) s.drawn [s.heap.objs.size, a] (es.toList.map (·.2)) ms (fun i h => IsSetIter h s.heap.objs.size (.int ((match i with | 0 => 0 | k + 1 => t.place.getD k 0 + 1 : Nat) : Int) 0) i a es.size ep ∧ h.get? a = some o) (Nat.le_refl _) (fun b o e => Heap.get?_push_of_some _ e) fpo hms hpm (by rw [ol]; exact fits_of_scanBound hb)
      exact go (by rw [ol]; exact Wk) ⟨s0, Heap.get?_push_of_some _ ho⟩
  · have e1 : (s.heap.push (placesObj ps)).objs.size = s.heap.objs.size + 1 := Heap.size_push ..
    have pl : ps.length = es.size := by rw [p.length_eq, List.length_range]
    have op : (ps.map fun p => (es.getD p (0, .none)).2).Perm (es.toList.map (·.2)) := by
      refine (p.map fun p => (es.getD p (0, .none)).2).trans ?_
      have : ((List.range es.size).map fun p => (es.getD p (0, .none)).2) = es.toList.map (·.2) := by
        apply List.ext_getElem
        · simp
        · intro i h1 h2
          have hi : i < es.size := by simpa using h1
          simp [Array.getD, hi]
      rw [this]
    obtain ⟨ms', i', p'⟩ := ints_perm op hms
    have ol : (ps.map fun p => (es.getD p (0, .none)).2).length = es.size := by rw [List.length_map, pl]
    have fpo : ∀ b ∈ [s.heap.objs.size + 1, a, s.heap.objs.size], b < ((s.heap.push (placesObj ps)).push (setIt (.ref s.heap.objs.size) 0 a es.size ep)).objs.size ∧ (b = a ∨ s.heap.objs.size ≤ b) := fun b hb' => by
      rw [Heap.size_push, e1]
      rcases List.mem_cons.mp hb' with rfl | hb'
      · exact ⟨Nat.lt_succ_self _, .inr (Nat.le_succ _)⟩
      · rcases List.mem_cons.mp hb' with rfl | hb'
        · exact ⟨Nat.lt_succ_of_lt (Nat.lt_succ_of_lt ha), .inl rfl⟩
        · rw [List.mem_singleton.mp hb']
          exact ⟨by omega, .inr (Nat.le_refl _)⟩
    have Wk := walk_drawn (prog := prog) (w := w) (A := A) (T := s.heap.objs.size) (I := s.heap.objs.size + 1) hh (Nat.ne_of_lt (Nat.lt_succ_of_lt ha)) (Nat.ne_of_lt (Nat.lt_succ_self _)) hd T.fits p
    have s0 : IsSetIter ((s.heap.push (placesObj ps)).push (setIt (.ref s.heap.objs.size) 0 a es.size ep)) (s.heap.objs.size + 1) (.ref s.heap.objs.size) 0 a es.size ep := by
      show _ = _
      rw [← e1]
      exact Heap.get?_push_size _ rfl
    have go := h (s.heap.objs.size + 1) ((s.heap.push (placesObj ps)).push (setIt (.ref s.heap.objs.size) 0 a es.size ep)) d [s.heap.objs.size + 1, a, s.heap.objs.size] (ps.map fun p => (es.getD p (0, .none)).2) ms' (fun i h => IsSetIter h (s.heap.objs.size + 1) (.ref s.heap.objs.size) i a es.size ep ∧ h.get? a = some o ∧ h.get? s.heap.objs.size = some (placesObj ps)) (Nat.le_succ _) (fun b o e => Heap.get?_push_of_some _ (Heap.get?_push_of_some _ e)) fpo i' (p'.trans hpm) (by rw [ol]; exact fits_of_scanBound hb)
    exact go (by rw [ol]; exact Wk) ⟨s0, Heap.get?_push_of_some _ (Heap.get?_push_of_some _ ho), Heap.get?_push_of_some _ (Heap.get?_push_size _ rfl)⟩
end
end Lp
namespace Lp
open PySem PySem.Spec PyProof.Rows L2
section
variable {prog : Program} {w : World} {A : Around} {E : Value → Shared → Prop} {s : Shared}
theorem hint_set {r : Addr} {Q : Bool → Shared → Prop} (hT : s.TypeIs (.ref r) "set") (h : Q false s) : wpAny (model prog w) A (Builtin.List.listLengthHint (.ref r)) Q E s := by
  unfold Builtin.List.listLengthHint
  refine wpAny_bind (wpAny_specialOf hT PySem.F.slot_set_len.lookup ?_)
  generalize hid : ("set.__len__" : String) = id0
  wp_delta
  rw [show splitId id0 = some ("set", "__len__") from by subst hid; decide +kernel]
  subst hid
  refine wpAny_bind (wpAny_isInstance (T := "set") (b := true) hT (by rw [isSubtype_type]; kernel_rfl) ?_)
  refine wpAny_ite_split (fun hab => absurd hab (by decide)) (fun _ => ?_)
  refine wpAny_ite_split (fun _ => ?_) (fun hab => absurd (by decide +kernel) hab)
  refine wpAny_bind (wpAny_typeOf hT ?_)
  exact wpAny_pure h
theorem SetI.type {a : Addr} {ns : List Int} (S : SetI prog w s.heap a ns) : s.TypeIs (.ref a) "set" := by
  obtain ⟨nd, o, es, ep, t, ho, hex, r⟩ := S
  exact ⟨_, ho, hex.1⟩
theorem SetI.at' {h h' : Heap} {a : Addr} {ns : List Int} (S : SetI prog w h a ns) (k : ∀ o, h.get? a = some o → h'.get? a = some o) : SetI prog w h' a ns := by
  obtain ⟨nd, o, es, ep, t, ho, r⟩ := S
  exact ⟨nd, o, es, ep, t, k _ ho, r⟩
theorem SetI.lt {h : Heap} {a : Addr} {ns : List Int} (S : SetI prog w h a ns) : a < h.objs.size := by
  obtain ⟨nd, o, es, ep, t, ho, r⟩ := S
  exact Heap.lt_size ho
theorem items_out {out : List Value} {acc : Array Value} (h : ItemsOf (fun i v => out[i]? = some v) acc out.length) : acc.toList = out := by
  apply List.ext_getElem?
  intro i
  rw [Array.getElem?_toList]
  cases e : acc[i]? with
  | none =>
    have := Array.getElem?_eq_none_iff.mp e
    rw [h.1] at this
    exact (List.getElem?_eq_none this).symm
  | some v => exact (h.2 i v e).symm
theorem collect_set {a : Addr} {ns : List Int} {Q : List Value → Shared → Prop} (S : SetI prog w s.heap a ns) (hh : A.handled = none)
    (h : ∀ (h' : Heap) (tk : Nat) (d : PySem.Drawn) (vs : List Value) (ms : List Int), s.heap.objs.size < h'.objs.size → (∀ b o, s.heap.get? b = some o → h'.get? b = some o) → IntsAre vs ms → ms.Perm ns → vs.length ≤ sizeLine → Q vs { s with heap := h', toks := tk, drawn := d }) :
    wpAny (model prog w) A (collect (.ref a)) Q E s := by
  have halt : a < s.heap.objs.size := S.lt
  unfold collect
  refine wpAny_bind (wpAny_runValue (codeAny_builtin entry_proto_collect' ?_))
  show wpAny _ _ (do again (.builtin "list.__iadd__" ⟨[← newList [], .ref a], []⟩)) _ _ s
  refine wpAny_bind (wpAny_newList (wpAny_pure ⟨Code.quiet_builtin _ (by decide +kernel), codeAny_builtin entry_list_iadd' ?_⟩))
  rw [Around.under_plainId PySem.F.plain_list_iadd _]
  show wpAny _ _ (Builtin.List.listExtendWith (.ref s.heap.objs.size) (.ref a) (.ref s.heap.objs.size)) _ _ { s with heap := s.heap.push (seqObj "list" #[] 0) }
  have S1 : SetI prog w (s.heap.push (seqObj "list" #[] 0)) a ns := S.at' fun o e => Heap.get?_push_of_some _ e
  have e1 : (s.heap.push (seqObj "list" #[] 0)).objs.size = s.heap.objs.size + 1 := Heap.size_push ..
  unfold Builtin.List.listExtendWith
  refine wpAny_bind (wpAny_typeOf (T := "set") (SetI.type (s := { s with heap := s.heap.push (seqObj "list" #[] 0) }) S1) ?_)
  have h1 : Builtin.List.listSameRef (.ref s.heap.objs.size) (.ref a) = false := by simp [Builtin.List.listSameRef, Nat.ne_of_gt halt]
  have h2 : (Value.type "set" == Value.type "list") = false := by decide
  have h3 : (Value.type "set" == Value.type "tuple") = false := by decide
  simp only [h1, h2, h3, Bool.or_false, Bool.false_eq_true, if_false]
  refine wpAny_bind (seti_iter (A := A.in1) (s := { s with heap := s.heap.push (seqObj "list" #[] 0) }) S1 hh fun I h' d fp out ms St hI hk hfp hi hp hz Wk st => ?_)
  have hS1 : h'.get? s.heap.objs.size = some (seqObj "list" #[] 0) := hk _ _ (Heap.get?_push_size _ rfl)
  have hSf : s.heap.objs.size ∉ fp := fun hm => by
    rcases (hfp _ hm).2 with e | e
    · exact absurd e (Nat.ne_of_gt halt)
    · dsimp only at e; rw [e1] at e; omega
  have hIS : I ≠ s.heap.objs.size := fun e => by dsimp only at hI; rw [e1, e] at hI; exact absurd hI (Nat.not_succ_le_self _)
  have key : ∀ (R : Result → Shared → Prop) (h2 : Heap) (c₁ tk : Nat), (∀ h3 tk3, (∀ b o, s.heap.get? b = some o → h3.get? b = some o) → (∃ c, h3.get? s.heap.objs.size = some (seqObj "list" out.toArray c)) → R (.ok (.ret (.ref s.heap.objs.size))) { s with heap := h3, toks := tk3, drawn := d }) → St 0 h2 → (∀ b o, b ≠ s.heap.objs.size → h'.get? b = some o → h2.get? b = some o) → h2.get? s.heap.objs.size = some (seqObj "list" #[] c₁) →
      codeAny (model prog w) A (.builtin "list.extend.loop" ⟨[.ref s.heap.objs.size, .ref I, .ref s.heap.objs.size], []⟩) R { s with heap := h2, toks := tk, drawn := d } := by
    intro R h2 c₁ tk hR hst hk2 hS₁
    refine codeAny_extend_loopS Wk.toS hz s.heap.objs.size hSf _ out.length 0 _ #[] c₁ rfl (Nat.zero_le _) hst hS₁ (ItemsOf.nil _) fun s' acc' c' hm hS' hacc => ?_
    rw [Moved.eq_with hm]
    refine hR s'.heap s'.toks (fun b o e => ?_) ⟨c', by rw [← items_out hacc, Array.toArray_toList]; exact hS'⟩
    have hbS : b ≠ s.heap.objs.size := Nat.ne_of_lt (Heap.lt_size e)
    refine hm.heap b o (fun hmem => ?_) (hk2 b o hbS (hk b o (Heap.get?_push_of_some _ e)))
    rcases List.mem_cons.mp hmem with e' | hmem
    · exact hbS e'
    · have := Heap.lt_size e
      rw [List.mem_singleton.mp hmem] at this
      dsimp only at hI
      rw [e1] at hI
      exact absurd (Nat.lt_of_lt_of_le this (Nat.le_trans (Nat.le_succ _) hI)) (Nat.lt_irrefl _)
  have fin : ∀ h3 tk3, (∀ b o, s.heap.get? b = some o → h3.get? b = some o) → (∃ c, h3.get? s.heap.objs.size = some (seqObj "list" out.toArray c)) → wpAny (model prog w) A (do
      let o ← load s.heap.objs.size
      match o.data with
      | .seq xs _ => pure xs.toList
      | _ => unsupported "internal:collect") Q E { s with heap := h3, toks := tk3, drawn := d } := fun h3 tk3 k3 ⟨c, hc⟩ => by
    refine wpAny_bind (wpAny_load hc ?_)
    exact wpAny_pure (h h3 tk3 d out ms (Heap.lt_size hc) k3 hi hp hz)
  refine wpAny_bind (wpAny_holding (hint_set (SetI.type (s := { s with heap := h', drawn := d }) (S1.at' fun o e => hk _ _ e)) ?_))
  refine wpAny_ite_split (fun _ => ?_) (fun _ => wpAny_pure ⟨plainId_quiet PySem.F.plain_extend_loop _, key _ _ 0 _ fin st (fun b o _ e => e) hS1⟩)
  refine wpAny_bind (wpAny_rule ?_)
  refine wpAny_bind ?_
  show wpAny _ _ (updateSeq s.heap.objs.size (·.push .none) >>= fun _ => updateSeq s.heap.objs.size (·.pop)) _ _ _
  refine wpAny_bind (wpAny_updateSeq hS1 rfl ?_)
  have hS₂ := Heap.get?_update_self (Obj.mapSeq (·.push Value.none)) hS1 rfl
  refine wpAny_updateSeq (hz := by seq_fits) hS₂ rfl ?_
  have hS₃ := Heap.get?_update_self (Obj.mapSeq (·.pop)) hS₂ rfl
  refine wpAny_pure ⟨plainId_quiet PySem.F.plain_extend_loop _, key _ _ _ _ fin ?_ (fun b o hb e => ?_) hS₃⟩
  · refine Wk.frame 0 _ _ st fun b hb o e => ?_
    have hbS : b ≠ s.heap.objs.size := fun h => hSf (h ▸ hb)
    exact (Heap.get?_update_other _ _ (Ne.symm hbS)).trans ((Heap.get?_update_other _ _ (Ne.symm hbS)).trans e)
  · exact (Heap.get?_update_other _ _ (Ne.symm hb)).trans ((Heap.get?_update_other _ _ (Ne.symm hb)).trans e)
theorem ints_len : ∀ {vs : List Value} {ns : List Int}, IntsAre vs ns → vs.length = ns.length
  | _, _, .nil => rfl
  | _, _, .cons _ _ h => congrArg (· + 1) (ints_len h)
/-- sorted(set of ints) -/
theorem sorted_set {a : Addr} {ns : List Int} {Q : Value → Shared → Prop} (S : SetI prog w s.heap a ns) (hh : A.handled = none) (h64 : ns.length < 64)
    (h : ∀ (h' : Heap) (tk : Nat) (d : PySem.Drawn) (l : Addr) (out : List Value) (ns' : List Int) (e : Nat), s.heap.objs.size ≤ l → (∀ b o, s.heap.get? b = some o → h'.get? b = some o) → h'.get? l = some (seqObj "list" out.toArray e) → IntsAre out ns' → ns'.Perm ns → ns'.Pairwise (· ≤ ·) → Q (.ref l) { s with heap := h', toks := tk, drawn := d }) :
    wpAny (model prog w) A (call (.builtin "sorted") [.ref a]) Q E s := by
  refine Calls.call_function_entry kind_sorted plain_sorted entry_sorted (args_sorted1 _) ?_
  unfold Builtin.«sorted»
  refine wpAny_bind (m := checkCount "sorted" 1 1 _) (wpAny_pure ?_)
  refine wpAny_bind (collect_set S hh fun h' tk d vs ms hlt hk hi hp hz => ?_)
  have hl : vs.length < 64 := by rw [ints_len hi, hp.length_eq]; exact h64
  refine wpAny_bind (wpAny_newList ?_)
  have hoL : (h'.push (seqObj "list" vs.toArray 0)).get? h'.objs.size = some (seqObj "list" vs.toArray 0) := Heap.get?_push_size _ rfl
  show wpAny _ _ _ _ _ { s with heap := h'.push (seqObj "list" vs.toArray 0), toks := tk, drawn := d }
  refine wpAny_bind (wpAny_holding (wpAny_call_entry slot_list_sort ⟨_, hoL, rfl⟩ entry_list_sort (list_sort_tree hoL hi hl fun out ns' a1 a2 a3 => ⟨_, rfl, ?_⟩) (args_list_sort _)))
  obtain ⟨e, he⟩ := sortedHeap_at (out := out) hoL
  refine wpAny_pure ⟨_, rfl, h _ tk d h'.objs.size out.toList ns' e (Nat.le_of_lt hlt) (fun b o q => ?_) (by rw [Array.toArray_toList]; exact he) a1 (a2.trans hp) a3⟩
  · have hlt := Heap.lt_size (hk b o q)
    rw [sortedHeap_old (Nat.ne_of_lt hlt) (by rw [size_push']; exact Nat.lt_succ_of_lt hlt), Heap.get?_push_ne _ _ _ (Nat.ne_of_lt hlt)]
    exact hk b o q

end
end Lp
namespace L2
open PySem PySem.Spec PyProof.Rows
/-! enumerate, zip, set, sorted(set), list(dict) over the layer -/
theorem Inv.drawn {X : Cx} {pins : List (Addr × Obj)} {σ : St} {H : Hp} {s : Shared} (I : Inv X pins σ H s) (d : PySem.Drawn) : Inv X pins σ H { s with drawn := d } :=
  ⟨I.ok, I.os, I.bare, I.base, I.loc, I.cell, I.free, I.freeC, I.pin, I.hok, I.len⟩
section
variable {X : Cx} {pins : List (Addr × Obj)} {σ : St} {H : Hp} {s : Shared} {h' : Heap} {t' : Nat} {fp : List Addr}
/-- untracked records of ours have turned -/
theorem Inv.turnedL (I : Inv X pins σ H s) (k : ∀ b o, b ∉ fp → s.heap.get? b = some o → h'.get? b = some o) (hf : ∀ b ∈ fp, FpOk X pins H b) : Inv X pins σ H { s with heap := h', toks := t' } := by
  have nit : ∀ b u, H b = some u → b ∉ fp := fun b u e z => by rw [(hf b z).1] at e; cases e
  have nL : X.env.locals ∉ fp := fun z => (hf _ z).2.1 rfl
  refine I.step (g' := s.gens) (d' := s.drawn) (ch := fp) (fun b hb => ?_) (fun b o _ _ hc e _ => k b o hc e) (fun b o _ _ hc e _ => ⟨o.slots, k b o hc e⟩) (fun _ _ _ _ n => n)
    (fun b o hc e => ⟨o, k b o hc e⟩) (fun _ _ e => e) (fun _ _ _ e => e) (fun b ps e => ⟨#[], by rw [e]; simp⟩) (fun m hm => ?_) (fun b u e => ?_) I.bare
  · obtain ⟨f0, f1, f2, f3, f4, f5⟩ := hf b hb
    exact ⟨f3, f1, f4, f5⟩
  · obtain ⟨o, es, ep, ho, r⟩ := hm
    exact ⟨o, es, ep, k _ o nL ho, r⟩
  · refine (I.hok b u e).stay (fun c v hc q => k c v ?_ q) (fun _ q => q) fun _ _ q => q
    rcases hc with z | z
    · rw [z]; exact nit b u e
    · exact nit c _ z
theorem Inv.turnedTupL {xs : List V} {its : List Value} (I : Inv X pins σ H s) (k : ∀ b o, b ∉ fp → s.heap.get? b = some o → h'.get? b = some o) (hf : ∀ b ∈ fp, FpOk X pins H b) (hz : xs.length ≤ sizeLine) (hv : Vals xs its)
    (ht : h'.get? s.heap.objs.size = some { cls := .type "tuple", data := .seq its.toArray }) : Inv X pins σ (upd H s.heap.objs.size (.tup xs)) { s with heap := h', toks := t' } := by
  have hp : H s.heap.objs.size = none := I.hok.fresh (Nat.le_refl _)
  have nb : ∀ {b : Addr} {u : HO}, H b = some u → b ≠ s.heap.objs.size := fun e z => by subst z; rw [hp] at e; cases e
  have ni : ∀ {b : Addr} {u : HO}, H b = some u → b ∉ fp := fun {b u} e z => by rw [(hf b z).1] at e; cases e
  have nL : X.env.locals ∉ fp := fun z => (hf _ z).2.1 rfl
  have hok : HOk X.prog X.w (upd H s.heap.objs.size (.tup xs)) h' := fun a u e => by
    by_cases h : a = s.heap.objs.size
    · subst h
      rw [upd_same] at e
      cases e
      exact ⟨hz, its, hv, _, ht, rfl, _, rfl⟩
    · rw [upd_ne h] at e
      refine (I.hok a u e).stay (fun b o hb q => k b o ?_ q) (fun b q => by rw [upd_ne (nb q)]; exact q) (fun b xs q => by rw [upd_ne (nb q)]; exact q)
      rcases hb with rfl | hb
      · exact ni e
      · exact ni hb
  exact I.step (g' := s.gens) (d' := s.drawn) (ch := fp) (fun b hb => by
      obtain ⟨f0, f1, f2, f3, f4, f5⟩ := hf b hb
      exact ⟨f3, f1, f4, f5⟩) (fun b o _ _ hb e _ => k b o hb e) (fun b o _ _ hb e _ => ⟨o.slots, k b o hb e⟩)
    (fun b o _ e n => by rw [upd_ne (Nat.ne_of_lt (Heap.lt_size e))]; exact n) (fun b o hb e => ⟨o, k b o hb e⟩) (fun b xs q => by rw [upd_ne (nb q)]; exact q)
    (fun b o u q => by rw [upd_ne (nb q)]; exact q) (fun b ps q => ⟨#[], by rw [upd_ne (nb q)]; simpa using q⟩) (fun m q => q.at' fun o e => k _ o nL e) hok I.bare
end
/-! ### enumerate(xs) -/
def Ite (a : Addr) : It :=
  ⟨fun i H => ∃ xs x, H a = some (.lst xs) ∧ xs[i]? = some x, fun i H x H' => ∃ p y, H p = none ∧ x = .ref p ∧ H' = upd H p (.tup [.int i, y]) ∧ ∀ xs, H a = some (.lst xs) → xs[i]? = some y, fun i H => ∃ xs, H a = some (.lst xs) ∧ xs.length ≤ i⟩
def iEnum (ta : TA) : TI := fun σ H R => ta σ H fun vs H1 => ∃ a xs, vs = [.ref a] ∧ H1 a = some (.lst xs) ∧ R (Ite a) H1
section
variable {X : Cx} {elts : List Expr} {x1 : Nat} {tpos : Pos}
end
/-! ### zip(xs, ys) -/
def Itz (a b : Addr) : It :=
  ⟨fun i H => ∃ xs ys x y, H a = some (.lst xs) ∧ H b = some (.lst ys) ∧ xs[i]? = some x ∧ ys[i]? = some y,
   fun i H x H' => ∃ p y z, H p = none ∧ x = .ref p ∧ H' = upd H p (.tup [y, z]) ∧ (∀ xs, H a = some (.lst xs) → xs[i]? = some y) ∧ ∀ ys, H b = some (.lst ys) → ys[i]? = some z,
   fun i H => ∃ xs ys, H a = some (.lst xs) ∧ H b = some (.lst ys) ∧ (xs.length ≤ i ∨ ys.length ≤ i)⟩
theorem turn_zip {P : Program} {w : World} {K : PySem.W.Frag} {elts : List Expr} {x1 : Nat} {tpos : Pos} {z TI TO i1 i2 a b : Addr} (D : ZipApart z TI TO i1 i2 a b) :
    Turn P w K (.Tuple elts x1 tpos) (Itz a b) [z, TI, TO, i1, i2] z (fun i h => IsZip h z TI TO .none ∧ IsPair h TI (.ref i1) (.ref i2) ∧ (∃ c d, IsPair h TO c d) ∧ h.IsListIter i1 a i ∧ h.IsListIter i2 b i) where
  mem := by simp
  obj := fun i h st c hc => by
    obtain ⟨hz, hTI, ⟨c1, d1, hTO⟩, ⟨o1, s1, _, e1⟩, ⟨o2, s2, _, e2⟩⟩ := st
    simp only [List.mem_cons, List.not_mem_nil, or_false] at hc
    rcases hc with rfl | rfl | rfl | rfl | rfl
    · exact ⟨_, hz, fun v z => by cases z⟩
    · exact ⟨_, hTI, fun v z => by cases z⟩
    · exact ⟨_, hTO, fun v z => by cases z⟩
    · exact ⟨_, s1, fun v z => by rw [e1] at z; cases z⟩
    · exact ⟨_, s2, fun v z => by rw [e2] at z; cases z⟩
  keep := fun i h h' st k => by
    obtain ⟨hz, hTI, ⟨c1, d1, hTO⟩, h1, h2⟩ := st
    exact ⟨k z (by simp) _ hz, k TI (by simp) _ hTI, ⟨c1, d1, k TO (by simp) _ hTO⟩, h1.at fun o e => k i1 (by simp) o e, h2.at fun o e => k i2 (by simp) o e⟩
  item := by
    intro X hP hw hK hc i pins s σ H E I hf st hg
    subst hP hw hK
    obtain ⟨xs, ys, x, y, hq1, hq2, hx, hy⟩ := hg
    obtain ⟨its, rv, p, hz⟩ := I.list (SqL.of hq1)
    obtain ⟨its2, rv2, p2, hz2⟩ := I.list (SqL.of hq2)
    obtain ⟨u, hu, ru⟩ := rv.get hx
    obtain ⟨u2, hu2, ru2⟩ := rv2.get hy
    obtain ⟨sz, hTI, ⟨c1, d1, hTO⟩, h1, h2⟩ := st
    have hn : H s.heap.objs.size = none := I.hok.fresh (Nat.le_refl _)
    have lt : ∀ {c o}, s.heap.get? c = some o → c ≠ s.heap.objs.size := fun e => Nat.ne_of_lt (Heap.lt_size e)
    have lz := lt sz
    have lTI := lt hTI
    have lTO := lt hTO
    have l1 : i1 ≠ s.heap.objs.size := by obtain ⟨_, e, _⟩ := h1; exact lt e
    have l2 : i2 ≠ s.heap.objs.size := by obtain ⟨_, e, _⟩ := h2; exact lt e
    refine wpAny_pyNext_zip_item D sz hTI hTO h1 h2 p.isList p2.isList (x := u) (y := u2) (by simpa using hu) (by simpa using hu2) fun h' a1 a2 a3 a4 a5 a6 kp => ?_
    refine ⟨_, rfl, wpAny_letOwnedTupleGo_zip a1 fun h2 b1 sb => ?_⟩
    have k2 : ∀ c o, c ∉ [z, TI, TO, i1, i2] → s.heap.get? c = some o → h2.get? c = some o := fun c o hb q => by
      have n1 : c ≠ z := fun e => hb (by simp [e])
      exact sb.extBut c o n1 (kp c o n1 (fun e => hb (by simp [e])) (fun e => hb (by simp [e])) (fun e => hb (by simp [e])) q)
    have ht2 := sb.extBut _ _ lz.symm a5
    have I1 : Inv X pins σ (upd H s.heap.objs.size (.tup [x, y])) { s with heap := h2, toks := s.toks } := I.turnedTupL (s := s) (h' := h2) k2 hf (by show 2 ≤ sizeLine; decide) (its := [u, u2]) (.cons ru (.cons ru2 .nil)) ht2
    refine ⟨.ref s.heap.objs.size, _, I1, rfl, ⟨_, x, y, hn, rfl, rfl, fun zs hy => by rw [hq1] at hy; cases hy; exact hx, fun zs hw => by rw [hq2] at hw; cases hw; exact hy⟩,
      ⟨b1, sb.extBut _ _ D.TIz (kp _ _ D.TIz D.TITO D.TIi1 D.TIi2 hTI), ⟨_, _, sb.extBut _ _ D.TOz a2⟩, a3.extBut sb.extBut D.i1z, a4.extBut sb.extBut D.i2z⟩, fun c hc => ?_⟩
    have hb' : c ≠ s.heap.objs.size := by
      simp only [List.mem_cons, List.not_mem_nil, or_false] at hc
      rcases hc with rfl | rfl | rfl | rfl | rfl
      · exact lz
      · exact lTI
      · exact lTO
      · exact l1
      · exact l2
    rw [upd_ne hb']
    exact (hf c hc).1
  done := by
    intro X hP hw hK hc i pins s σ H E I hf st hg
    subst hP hw hK
    obtain ⟨xs, ys, hq1, hq2, hx⟩ := hg
    obtain ⟨its, rv, p, hz⟩ := I.list (SqL.of hq1)
    obtain ⟨its2, rv2, p2, hz2⟩ := I.list (SqL.of hq2)
    have hl := rv.length
    have hl2 := rv2.length
    obtain ⟨sz, hTI, ⟨c1, d1, hTO⟩, h1, h2⟩ := st
    have hend : its.toArray[i]? = none ∨ its2.toArray[i]? = none := by
      rcases hx with hx | hx
      · exact .inl (by simp; omega)
      · exact .inr (by simp; omega)
    exact wpAny_pyNext_zip_end (I.ok.hd hc) D sz hTI hTO h1 h2 p.isList p2.isList hend fun h' eb => ⟨rfl, I.turnedL (t' := s.toks) (fun c o hb q => eb c o (fun e => hb (by simp [e])) (fun e => hb (by simp [e])) (fun e => hb (by simp [e])) (fun e => hb (by simp [e])) q) hf⟩
  self := fun _ _ _ _ _ st h => wpAny_pyIter_zip st.1 h
theorem zip_apart {n a b : Nat} (la : a < n) (lb : b < n) : ZipApart (n + 4) (n + 2) (n + 3) n (n + 1) a b := by
  constructor <;> (intro h; have h2 : @Eq Nat _ _ := h; omega)
def iZip (ta : TA) : TI := fun σ H R => ta σ H fun vs H1 => ∃ a b xs ys, vs = [.ref a, .ref b] ∧ H1 a = some (.lst xs) ∧ H1 b = some (.lst ys) ∧ R (Itz a b) H1
section
variable {X : Cx} {elts : List Expr} {x1 : Nat} {tpos : Pos}
theorem pi_zip {l m : Expr} {ta : TA} {p pos : Pos} (hg : Gl X "zip") (hm : X.mg "zip" = none) (ha : PA X [l, m] ta) (hs : starEach [l, m] X.env = [(false, eval l X.env), (false, eval m X.env)] := by rfl) (hs2 : starEach [m] X.env = [(false, eval m X.env)] := by rfl) :
    PI X (.Tuple elts x1 tpos) (.Call (.Name "zip" p) [l, m] [] pos) (iZip ta) := by
  intro pins s σ H R I h
  refine Call_ (ld_blt I hg hm bb_zip (PyProof.Rows.callWith_type1 (thn (ha pos pins s σ H _ I h) fun us s1 ⟨vs, H1, I1, r1, q1⟩ => ?_) (by rw [hs, hs2]) (by rw [hs2]; rfl)))
  obtain ⟨a, b, xs, ys, rfl, hq1, hq2, q⟩ := q1
  obtain ⟨u, w', rfl, rx, ry⟩ := vals2 r1
  cases rx
  cases ry
  obtain ⟨its, rv, p1, hz⟩ := I1.list (SqL.of hq1)
  obtain ⟨its2, rv2, p2, hz2⟩ := I1.list (SqL.of hq2)
  have la : a < s1.heap.objs.size := by obtain ⟨o, e, _⟩ := p1.isList; exact Heap.lt_size e
  have lb : b < s1.heap.objs.size := by obtain ⟨o, e, _⟩ := p2.isList; exact Heap.lt_size e
  refine call_zip_2 p1.isList p2.isList fun h' a1 a2 a3 a4 a5 a6 kp => ?_
  refine wpAny_pyIter_zip a1 ?_
  have I2 : Inv X pins σ H1 { s1 with heap := h', toks := s1.toks } := I1.kept kp
  refine ⟨_, [s1.heap.objs.size + 4, s1.heap.objs.size + 2, s1.heap.objs.size + 3, s1.heap.objs.size, s1.heap.objs.size + 1], _, _, H1, rfl, I2, turn_zip (a := a) (b := b) ?_, ⟨a1, a2, ⟨_, _, a3⟩, a4, a5⟩, fun c hc => ?_, q⟩
  · exact zip_apart la lb
  · have hc' : s1.heap.objs.size ≤ c := by
      simp only [List.mem_cons, List.not_mem_nil, or_false] at hc
      rcases hc with rfl | rfl | rfl | rfl | rfl <;> first | exact Nat.le_refl _ | exact Nat.le_add_right _ _
    exact I1.fpOk hc' (I1.hok.fresh hc')
end
theorem for_zip {a b : Addr} {xs ys : List V} {g : TG} {tb : TS} {D : Ends} {σ : St} {H : Hp} (hlen : xs.length = ys.length) (Pv : Nat → St → Hp → Prop) (h0 : Pv 0 σ H) (hl : ∀ i σ H, i ≤ xs.length → Pv i σ H → H a = some (.lst xs) ∧ H b = some (.lst ys))
    (hs : ∀ i x y p σ H, xs[i]? = some x → ys[i]? = some y → Pv i σ H → H p = none → g (.ref p) σ (upd H p (.tup [x, y])) fun σ2 H2 => tb { D with nx := Pv (i + 1), ct := Pv (i + 1), bk := D.nx } σ2 H2) (hd : ∀ σ H, Pv xs.length σ H → D.nx σ H) :
    ∃ W : Nat → Nat → St → Hp → Prop, (∃ m, W 0 m σ H) ∧ ∀ i m σ H, W i m σ H →
      ((Itz a b).stop i H ∧ D.nx σ H) ∨ ((Itz a b).go i H ∧ ∃ N : St → Hp → Prop, (∀ σ' H', N σ' H' → ∃ m', m' < m ∧ W (i + 1) m' σ' H') ∧ ∀ x H', (Itz a b).yld i H x H' → g x σ H' fun σ2 H2 => tb { D with nx := N, ct := N, bk := D.nx } σ2 H2) := by
  refine ⟨fun i m σ H => m = xs.length - i ∧ i ≤ xs.length ∧ Pv i σ H, ⟨xs.length, by simp, Nat.zero_le _, h0⟩, ?_⟩
  rintro i m σ H ⟨rfl, hi, p⟩
  obtain ⟨q1, q2⟩ := hl i σ H hi p
  by_cases hlt : i < xs.length
  · have hlt2 : i < ys.length := by omega
    refine .inr ⟨⟨xs, ys, xs[i], ys[i], q1, q2, by simp [hlt], by simp [hlt2]⟩, Pv (i + 1), fun σ' H' p' => ⟨xs.length - (i + 1), by omega, rfl, hlt, p'⟩, fun x H' y => ?_⟩
    obtain ⟨t, y, z, ht, e, e2, hy, hz⟩ := y
    subst e; subst e2
    exact hs i y z t σ _ (hy xs q1) (hz ys q2) p ht
  · have e : i = xs.length := by omega
    subst e
    exact .inl ⟨⟨xs, ys, q1, q2, .inl (Nat.le_refl _)⟩, hd σ H p⟩
/-! ### set(xs), sorted(set), list(dict) -/
abbrev setHO (P : Program) (w : World) (a : Addr) (ns : List Int) : HO := .ext fun h => Lp.SetI P w h a ns
section
variable {X : Cx}
theorem call_setOf (hc : X.calm = true) : CallR X (.type "set") (fun xs H Q => ∃ (p : Addr) (ns : List Int), xs = [.ref p] ∧ SqL X.K H p (ns.map V.int) ∧ ns.length < 4000 ∧ ∀ a, H a = none → Q (.ref a) (upd H a (setHO X.prog X.w a (Lp.ded ns)))) := by
  intro pins s σ H xs us Q I r h
  obtain ⟨p, ns, rfl, hS, hl, k⟩ := h
  obtain ⟨u, rfl, rx⟩ := vals1 r
  cases rx
  obtain ⟨its, rI, pl, hz⟩ := I.list hS
  have hI : IntsAre its.toArray.toList ns := intsAre_of rI
  have hlen := rI.length
  rw [List.length_map] at hlen
  refine Lp.set_of_ints (I.ok.hd hc) pl.isList hI (by rw [List.size_toArray]; show its.length + 1 < 4096; omega) fun h' tk S kp => ?_
  exact ⟨.ref s.heap.objs.size, _, I.laid (t' := tk) kp (Nat.le_refl _) (show ObjOk X.prog X.w _ _ _ (setHO X.prog X.w s.heap.objs.size (Lp.ded ns)) from ⟨S, (by obtain ⟨nd, o, es, ep, t, ho, r⟩ := S; exact ⟨o, ho⟩), fun h1 h2 s1 kk => s1.at' kk⟩), rfl, k _ (I.hok.fresh (Nat.le_refl _))⟩
theorem call_sortedSet (hc : X.calm = true) : CallR X (.builtin "sorted") (fun xs H Q => ∃ (a : Addr) (ns : List Int), xs = [.ref a] ∧ H a = some (setHO X.prog X.w a ns) ∧ ns.length < 64 ∧
    ∀ (l : Addr) (ns' : List Int), H l = none → ns'.Perm ns → ns'.Pairwise (· ≤ ·) → Q (.ref l) (upd H l (.lst (ns'.map V.int)))) := by
  intro pins s σ H xs us Q I r h
  obtain ⟨a, ns, rfl, hS, h64, k⟩ := h
  obtain ⟨u, rfl, rx⟩ := vals1 r
  cases rx
  obtain ⟨S, _, _⟩ := (show ObjOk X.prog X.w H s.heap a (setHO X.prog X.w a ns) from I.hok a _ hS)
  refine Lp.sorted_set S (I.ok.hd hc) h64 fun h' tk d l out ns' e hle kp he a1 a2 a3 => ?_
  have hl' : ns'.length = ns.length := a2.length_eq
  have hz' : (ns'.map V.int).length ≤ sizeLine := by rw [List.length_map, hl']; exact Nat.le_of_lt (small1000 (by omega))
  exact ⟨.ref l, _, (I.laid (t' := tk) kp hle (show ObjOk X.prog X.w _ _ _ (.lst (ns'.map V.int)) from ⟨hz', out, e, vals_ints a1, he⟩)).drawn d, rfl, k _ _ (I.hok.fresh hle) a2 a3⟩
end
end L2
namespace L2
open PySem PyProof.Rows
/-! THE LONG SORT, 1: the search by doubled steps -/
def gal' : Bool → Keyed → Array Keyed → Nat → Nat → Nat → StateT SortSt Sem (Option Nat) := sortPriv% PySem.Builtin.gallop
/-- is the item at i on the key's left hand -/
def gAsk (left : Bool) (key : Keyed) (arr : Array Keyed) (i : Nat) : StateT SortSt Sem (Option Bool) := do
  let x ← elem' arr i
  if left = true then lt' x key else do
    let r ← lt' key x
    pure (r.map (!·))
abbrev G3 := Option (Option Nat) × Nat × Nat
def gUp (left : Bool) (key : Keyed) (arr : Array Keyed) (base hint n : Nat) : StateT SortSt Sem G3 :=
  forIn [0:n] ((none, 0, 1) : G3) fun _ c =>
    if c.2.2 ≥ n - hint then pure (ForInStep.done (none, c.2.1, c.2.2)) else do
      let r ← gAsk left key arr (base + (hint + c.2.2))
      match r with
      | some more => if (!more) = true then pure (ForInStep.done (none, c.2.1, c.2.2)) else pure (ForInStep.yield (none, c.2.2, 2 * c.2.2 + 1))
      | _ => pure (ForInStep.done (some none, c.2.1, c.2.2))
def gDn (left : Bool) (key : Keyed) (arr : Array Keyed) (base hint n : Nat) : StateT SortSt Sem G3 :=
  forIn [0:n] ((none, 0, 1) : G3) fun _ c =>
    if c.2.2 ≥ hint + 1 then pure (ForInStep.done (none, c.2.1, c.2.2)) else do
      let r ← gAsk left key arr (base + (hint - c.2.2))
      match r with
      | some found => if found = true then pure (ForInStep.done (none, c.2.1, c.2.2)) else pure (ForInStep.yield (none, c.2.2, 2 * c.2.2 + 1))
      | _ => pure (ForInStep.done (some none, c.2.1, c.2.2))
def mBody (left : Bool) (key : Keyed) (arr : Array Keyed) (base : Nat) : Nat → G3 → StateT SortSt Sem (ForInStep G3) := fun _ c =>
    if c.2.1 ≥ c.2.2 then pure (ForInStep.done (none, c.2.1, c.2.2)) else do
      let r ← gAsk left key arr (base + (c.2.1 + (c.2.2 - c.2.1) / 2))
      match r with
      | some more => if more = true then pure (ForInStep.yield (none, c.2.1 + (c.2.2 - c.2.1) / 2 + 1, c.2.2)) else pure (ForInStep.yield (none, c.2.1, c.2.1 + (c.2.2 - c.2.1) / 2))
      | _ => pure (ForInStep.done (some none, c.2.1, c.2.2))
/-- the parts of the search -/
theorem gal_parts (left : Bool) (key : Keyed) (arr : Array Keyed) (base n hint : Nat) : ∃ F : Option Bool → StateT SortSt Sem (Option Nat), gal' left key arr base n hint = (gAsk left key arr (base + hint) >>= F) ∧
    (∃ G : G3 → StateT SortSt Sem (Option Nat), F (some true) = (gUp left key arr base hint n >>= G) ∧ ∃ Z : G3 → StateT SortSt Sem (Option Nat), (∀ l o, G (none, l, o) = (forIn [0:n] ((none, hint + l + 1, hint + min o (n - hint)) : G3) (mBody left key arr base) >>= Z)) ∧ ∀ l r, Z (none, l, r) = pure (some r)) ∧
    (∃ G : G3 → StateT SortSt Sem (Option Nat), F (some false) = (gDn left key arr base hint n >>= G) ∧ ∃ Z : G3 → StateT SortSt Sem (Option Nat), (∀ l o, G (none, l, o) = (forIn [0:n] ((none, hint + 1 - min o (hint + 1), hint - l) : G3) (mBody left key arr base) >>= Z)) ∧ ∀ l r, Z (none, l, r) = pure (some r)) :=
  ⟨_, rfl, ⟨_, rfl, _, fun _ _ => rfl, fun _ _ => rfl⟩, ⟨_, rfl, _, fun _ _ => rfl, fun _ _ => rfl⟩⟩
section
variable {pg : Program} {wo : World} {Ar : Around} {Ex : Value → Shared → Prop} {sh : Shared}
def pB (left : Bool) (kv : Int) (arr : Array Keyed) (i : Nat) : Bool := if left = true then decide (PyProof.Rows.K arr i < kv) else !decide (kv < PyProof.Rows.K arr i)
theorem wpS_lt2 {st : SortSt} {x y : Keyed} {a b : Int} {t u : Tok} {Qa : Option Bool → SortSt → Prop} (hk : kindOf st = oneType') (hx : x.1 = .int a t) (hy : y.1 = .int b u) (h : Qa (some (decide (a < b))) st) : wpS (model pg wo) Ar Ex sh (lt' x y) Qa st := by
  rw [lt'_eq]
  refine wpS_bind (wpS_get ?_)
  rw [hk, keyLt'_oneType, hx, hy]
  exact wpS_bind (wpS_lift (wpAny_attempt (oneLt_int ⟨rfl, wpS_pure h⟩)))
theorem key_at {arr : Array Keyed} (ik : IntKeys arr) {i : Nat} (hi : i < arr.size) : ∃ p t, arr[i]? = some p ∧ p.1 = .int (PyProof.Rows.K arr i) t := by
  have e : arr[i]? = some arr[i] := Array.getElem?_eq_getElem hi
  obtain ⟨n, t, hn⟩ := ik arr[i] (by simp)
  refine ⟨arr[i], t, e, ?_⟩
  unfold PyProof.Rows.K
  rw [e]
  dsimp only
  rw [hn]
  rfl
theorem wpS_ask {st : SortSt} {left : Bool} {key : Keyed} {kv : Int} {t : Tok} {arr : Array Keyed} {i : Nat} {Qa : Option Bool → SortSt → Prop} (hk : kindOf st = oneType') (ik : IntKeys arr) (hi : i < arr.size) (ek : key.1 = .int kv t) (h : Qa (some (pB left kv arr i)) st) :
    wpS (model pg wo) Ar Ex sh (gAsk left key arr i) Qa st := by
  obtain ⟨p, u, e, ep⟩ := key_at ik hi
  unfold gAsk
  rw [elem'_eq, e]
  refine wpS_bind (wpS_pure ?_)
  unfold pB at h
  cases left with
  | true =>
    rw [if_pos rfl] at h ⊢
    exact wpS_lt2 hk ep ek h
  | false =>
    rw [if_neg Bool.false_ne_true] at h ⊢
    exact wpS_bind (wpS_lt2 hk ek ep (wpS_pure h))
theorem wpS_mid {st : SortSt} {left : Bool} {key : Keyed} {kv : Int} {t : Tok} {arr : Array Keyed} {base n lo hi : Nat} {Qa : Option Nat → SortSt → Prop} {Z : G3 → StateT SortSt Sem (Option Nat)} (hZ : ∀ l r, Z (none, l, r) = pure (some r)) (hk : kindOf st = oneType') (ik : IntKeys arr) (ek : key.1 = .int kv t) (hz : base + n ≤ arr.size)
    (mono : ∀ i j, i ≤ j → j < n → pB left kv arr (base + j) = true → pB left kv arr (base + i) = true) (lh : lo ≤ hi) (hn : hi ≤ n) (below : ∀ i, i < lo → pB left kv arr (base + i) = true) (above : ∀ i, hi ≤ i → i < n → pB left kv arr (base + i) = false)
    (h : ∀ m, m ≤ n → (∀ i, i < m → pB left kv arr (base + i) = true) → (∀ i, m ≤ i → i < n → pB left kv arr (base + i) = false) → Qa (some m) st) : wpS (model pg wo) Ar Ex sh (forIn [0:n] ((none, lo, hi) : G3) (mBody left key arr base) >>= Z) Qa st := by
  unfold mBody
  refine wpS_bind (wpS_forRange (I := fun x c z => z = st ∧ ∃ l r, c = (none, l, r) ∧ l ≤ r ∧ r ≤ n ∧ r - l ≤ n - x ∧ (∀ i, i < l → pB left kv arr (base + i) = true) ∧ ∀ i, r ≤ i → i < n → pB left kv arr (base + i) = false) ?stp ?fn ⟨rfl, lo, hi, rfl, lh, hn, by omega, below, above⟩)
  case fn =>
    rintro c z ⟨rfl, l, r, rfl, h1, h2, h3, h4, h5⟩
    have e : l = r := by omega
    subst e
    rw [hZ]
    exact wpS_pure (h l h2 h4 h5)
  case stp =>
    rintro x c z _ xl ⟨rfl, l, r, rfl, h1, h2, h3, h4, h5⟩
    dsimp only
    by_cases k : l ≥ r
    · rw [if_pos k]
      have e : l = r := by omega
      subst e
      refine wpS_pure ?_
      dsimp only
      rw [hZ]
      exact wpS_pure (h l h2 h4 h5)
    · rw [if_neg k]
      have hm : l + (r - l) / 2 < r := by omega
      refine wpS_bind (wpS_ask hk ik (by omega) ek ?_)
      dsimp only
      cases e : pB left kv arr (base + (l + (r - l) / 2)) with
      | true =>
        rw [if_pos rfl]
        exact wpS_pure ⟨rfl, _, _, rfl, by omega, h2, by omega, fun i hi => mono i _ (by omega) (by omega) e, h5⟩
      | false =>
        rw [if_neg Bool.false_ne_true]
        refine wpS_pure ⟨rfl, _, _, rfl, by omega, by omega, by omega, h4, fun i h6 h7 => ?_⟩
        cases e2 : pB left kv arr (base + i) with
        | false => rfl
        | true => rw [mono _ i h6 h7 e2] at e; cases e
theorem wpS_gallop {st : SortSt} {left : Bool} {key : Keyed} {kv : Int} {t : Tok} {arr : Array Keyed} {base n hint : Nat} {Qa : Option Nat → SortSt → Prop} (hk : kindOf st = oneType') (ik : IntKeys arr) (ek : key.1 = .int kv t) (hz : base + n ≤ arr.size) (hh : hint < n)
    (mono : ∀ i j, i ≤ j → j < n → pB left kv arr (base + j) = true → pB left kv arr (base + i) = true)
    (h : ∀ m, m ≤ n → (∀ i, i < m → pB left kv arr (base + i) = true) → (∀ i, m ≤ i → i < n → pB left kv arr (base + i) = false) → Qa (some m) st) : wpS (model pg wo) Ar Ex sh (gal' left key arr base n hint) Qa st := by
  have nofalse : ∀ {i j}, i ≤ j → j < n → pB left kv arr (base + i) = false → pB left kv arr (base + j) = false := fun {i j} h1 h2 e => by
    cases e2 : pB left kv arr (base + j) with
    | false => rfl
    | true => rw [mono i j h1 h2 e2] at e; cases e
  obtain ⟨F, eF, ⟨G1, eG1, Z1, eZ1, hZ1⟩, ⟨G2, eG2, Z2, eZ2, hZ2⟩⟩ := gal_parts left key arr base n hint
  rw [eF]
  refine wpS_bind (wpS_ask hk ik (by omega) ek ?_)
  cases e0 : pB left kv arr (base + hint) with
  | true =>
    rw [eG1]
    unfold gUp
    refine wpS_bind (wpS_forRange (I := fun x c z => z = st ∧ ∃ l o, c = (none, l, o) ∧ l < o ∧ x + 1 ≤ o ∧ hint + l < n ∧ pB left kv arr (base + (hint + l)) = true)
      (Q := fun c z => wpS (model pg wo) Ar Ex sh (G1 c) Qa z) ?stp ?fn ⟨rfl, 0, 1, rfl, by decide, by decide, by omega, by simpa using e0⟩)
    case fn =>
      rintro c z ⟨rfl, l, o, rfl, h1, h2, h3, h4⟩
      rw [eZ1]
      exact wpS_mid hZ1 hk ik ek hz mono (by omega) (by omega) (fun i hi => mono i _ (by omega) (by omega) h4) (fun i h5 h6 => by omega) h
    case stp =>
      rintro x c z _ xl ⟨rfl, l, o, rfl, h1, h2, h3, h4⟩
      dsimp only
      by_cases k : o ≥ n - hint
      · rw [if_pos k]
        refine wpS_pure ?_
        dsimp only
        rw [eZ1]
        exact wpS_mid hZ1 hk ik ek hz mono (by omega) (by omega) (fun i hi => mono i _ (by omega) (by omega) h4) (fun i h5 h6 => by omega) h
      · rw [if_neg k]
        refine wpS_bind (wpS_ask hk ik (by omega) ek ?_)
        dsimp only
        cases e : pB left kv arr (base + (hint + o)) with
        | true =>
          rw [if_neg (by decide)]
          exact wpS_pure ⟨rfl, _, _, rfl, by omega, by omega, by omega, e⟩
        | false =>
          rw [if_pos (by decide)]
          refine wpS_pure ?_
          dsimp only
          rw [eZ1]
          exact wpS_mid hZ1 hk ik ek hz mono (by omega) (by omega) (fun i hi => mono i _ (by omega) (by omega) h4) (fun i h5 h6 => nofalse (by omega) h6 e) h
  | false =>
    rw [eG2]
    unfold gDn
    refine wpS_bind (wpS_forRange (I := fun x c z => z = st ∧ ∃ l o, c = (none, l, o) ∧ l < o ∧ x + 1 ≤ o ∧ l ≤ hint ∧ pB left kv arr (base + (hint - l)) = false)
      (Q := fun c z => wpS (model pg wo) Ar Ex sh (G2 c) Qa z) ?stp2 ?fn2 ⟨rfl, 0, 1, rfl, by decide, by decide, by omega, by simpa using e0⟩)
    case fn2 =>
      rintro c z ⟨rfl, l, o, rfl, h1, h2, h3, h4⟩
      rw [eZ2]
      exact wpS_mid hZ2 hk ik ek hz mono (by omega) (by omega) (fun i hi => by omega) (fun i h5 h6 => nofalse (by omega) h6 h4) h
    case stp2 =>
      rintro x c z _ xl ⟨rfl, l, o, rfl, h1, h2, h3, h4⟩
      dsimp only
      by_cases k : o ≥ hint + 1
      · rw [if_pos k]
        refine wpS_pure ?_
        dsimp only
        rw [eZ2]
        exact wpS_mid hZ2 hk ik ek hz mono (by omega) (by omega) (fun i hi => by omega) (fun i h5 h6 => nofalse (by omega) h6 h4) h
      · rw [if_neg k]
        refine wpS_bind (wpS_ask hk ik (by omega) ek ?_)
        dsimp only
        cases e : pB left kv arr (base + (hint - o)) with
        | true =>
          rw [if_pos rfl]
          refine wpS_pure ?_
          dsimp only
          rw [eZ2]
          exact wpS_mid hZ2 hk ik ek hz mono (by omega) (by omega) (fun i hi => mono i _ (by omega) (by omega) e) (fun i h5 h6 => nofalse (by omega) h6 h4) h
        | false =>
          rw [if_neg Bool.false_ne_true]
          exact wpS_pure ⟨rfl, _, _, rfl, by omega, by omega, by omega, e⟩
end
end L2
namespace L2
open PySem PyProof.Rows
/-! THE LONG SORT, 2: merging, in lists -/
abbrev nums (l : List Keyed) : List Int := l.map fun p => numOf p.1
/-- o is told, p and q are to come, each rising, none of o above them; together all -/
structure Mg (all o p q : List Keyed) : Prop where
  so : (nums o).Pairwise (· ≤ ·)
  sp : (nums p).Pairwise (· ≤ ·)
  sq : (nums q).Pairwise (· ≤ ·)
  op : ∀ x ∈ o, ∀ y ∈ p, numOf x.1 ≤ numOf y.1
  oq : ∀ x ∈ o, ∀ y ∈ q, numOf x.1 ≤ numOf y.1
  pm : (o ++ p ++ q).Perm all
theorem nums_app (l r : List Keyed) : nums (l ++ r) = nums l ++ nums r := List.map_append
theorem pair_app {l r : List Keyed} : (nums (l ++ r)).Pairwise (· ≤ ·) ↔ (nums l).Pairwise (· ≤ ·) ∧ (nums r).Pairwise (· ≤ ·) ∧ ∀ x ∈ l, ∀ y ∈ r, numOf x.1 ≤ numOf y.1 := by
  rw [nums_app, List.pairwise_append]
  constructor
  · rintro ⟨a, b, c⟩
    exact ⟨a, b, fun x hx y hy => c _ (List.mem_map_of_mem hx) _ (List.mem_map_of_mem hy)⟩
  · rintro ⟨a, b, c⟩
    refine ⟨a, b, fun x hx y hy => ?_⟩
    obtain ⟨x', hx', rfl⟩ := List.mem_map.mp hx
    obtain ⟨y', hy', rfl⟩ := List.mem_map.mp hy
    exact c x' hx' y' hy'
theorem Mg.left {all o p p' q : List Keyed} (m : Mg all o (p ++ p') q) (h : ∀ x ∈ p, ∀ y ∈ q, numOf x.1 ≤ numOf y.1) : Mg all (o ++ p) p' q := by
  obtain ⟨s1, s2, s3⟩ := pair_app.mp m.sp
  refine ⟨pair_app.mpr ⟨m.so, s1, fun x hx y hy => m.op x hx y (List.mem_append_left _ hy)⟩, s2, m.sq, fun x hx y hy => ?_, fun x hx y hy => ?_, ?_⟩
  · rcases List.mem_append.mp hx with z | z
    · exact m.op x z y (List.mem_append_right _ hy)
    · exact s3 x z y hy
  · rcases List.mem_append.mp hx with z | z
    · exact m.oq x z y hy
    · exact h x z y hy
  · have := m.pm
    simpa [List.append_assoc] using this
theorem Mg.right {all o p q q' : List Keyed} (m : Mg all o p (q ++ q')) (h : ∀ x ∈ q, ∀ y ∈ p, numOf x.1 ≤ numOf y.1) : Mg all (o ++ q) p q' := by
  obtain ⟨s1, s2, s3⟩ := pair_app.mp m.sq
  refine ⟨pair_app.mpr ⟨m.so, s1, fun x hx y hy => m.oq x hx y (List.mem_append_left _ hy)⟩, m.sp, s2, fun x hx y hy => ?_, fun x hx y hy => ?_, ?_⟩
  · rcases List.mem_append.mp hx with z | z
    · exact m.op x z y hy
    · exact h x z y hy
  · rcases List.mem_append.mp hx with z | z
    · exact m.oq x z y (List.mem_append_right _ hy)
    · exact s3 x z y hy
  · refine List.Perm.trans ?_ m.pm
    rw [List.append_assoc, List.append_assoc, List.append_assoc]
    refine List.Perm.append_left o ?_
    rw [← List.append_assoc, ← List.append_assoc]
    exact List.Perm.append_right q' List.perm_append_comm
/-- what is wanted of a merge -/
def Mgd (all r : List Keyed) : Prop := r.Perm all ∧ (nums r).Pairwise (· ≤ ·)
theorem Mg.doneP {all o p : List Keyed} (m : Mg all o p []) : Mgd all (o ++ p) :=
  ⟨by simpa using m.pm, pair_app.mpr ⟨m.so, m.sp, m.op⟩⟩
theorem Mg.doneQ {all o q : List Keyed} (m : Mg all o [] q) : Mgd all (o ++ q) :=
  ⟨by simpa using m.pm, pair_app.mpr ⟨m.so, m.sq, m.oq⟩⟩
end L2
namespace L2
open PySem PyProof.Rows
/-! THE LONG SORT, 3: the merge from the left -/
def smg' : Nat → StateT SortSt Sem Unit := sortPriv% PySem.Builtin.setMinGallop
abbrev setGal (st : SortSt) (g : Nat) : SortSt := SortSt.mk' (kindOf st) (arrOf st) (pendingOf st) g (failedOf st)
theorem intAt {a : Array Keyed} (ik : IntKeys a) {i : Nat} {p : Keyed} (h : a[i]? = some p) : ∃ t, p.1 = .int (numOf p.1) t := by
  obtain ⟨hi, e⟩ := Array.getElem?_eq_some_iff.mp h
  obtain ⟨n, t, hn⟩ := ik p (by rw [← e]; simp)
  exact ⟨t, by rw [hn]; rfl⟩
theorem K_at {a : Array Keyed} {i : Nat} {p : Keyed} (h : a[i]? = some p) : PyProof.Rows.K a i = numOf p.1 := by
  unfold PyProof.Rows.K
  rw [h]
theorem some_at {a : Array Keyed} {i : Nat} (h : i < a.size) : ∃ p, a[i]? = some p := ⟨a[i], Array.getElem?_eq_getElem h⟩
theorem drop_at {a : Array Keyed} {i : Nat} {z : Keyed} (h : a[i]? = some z) : a.toList.drop i = [z] ++ a.toList.drop (i + 1) := by
  obtain ⟨hi, e⟩ := Array.getElem?_eq_some_iff.mp h
  rw [List.drop_eq_getElem_cons (by simpa using hi)]
  simp [e]
theorem ext_list (a : Array Keyed) (i j : Nat) : (a.extract i j).toList = (a.toList.drop i).take (j - i) := by
  simp [List.extract_eq_take_drop]
theorem drop_ext (a : Array Keyed) (i k : Nat) : a.toList.drop i = (a.extract i (i + k)).toList ++ a.toList.drop (i + k) := by
  rw [ext_list, Nat.add_sub_cancel_left]
  have := (List.take_append_drop k (a.toList.drop i)).symm
  rwa [List.drop_drop] at this
theorem ext_end (a : Array Keyed) (i : Nat) : (a.extract i a.size).toList = a.toList.drop i := by
  rw [ext_list]
  exact List.take_of_length_le (by simp)
theorem mem_drop {a : Array Keyed} {i : Nat} {y : Keyed} (h : y ∈ a.toList.drop i) : ∃ m, i ≤ m ∧ m < a.size ∧ numOf y.1 = PyProof.Rows.K a m := by
  obtain ⟨m, hm, e⟩ := List.getElem_of_mem h
  rw [List.length_drop, Array.length_toList] at hm
  refine ⟨i + m, by omega, by omega, ?_⟩
  rw [List.getElem_drop] at e
  rw [K_at (p := y)]
  rw [Array.getElem?_eq_getElem (by omega)]
  simpa using e
theorem mem_ext {a : Array Keyed} {i j : Nat} {y : Keyed} (h : y ∈ (a.extract i j).toList) : ∃ m, i ≤ m ∧ m < j ∧ m < a.size ∧ numOf y.1 = PyProof.Rows.K a m := by
  rw [ext_list] at h
  obtain ⟨m, hm, e⟩ := List.getElem_of_mem h
  rw [List.length_take, List.length_drop, Array.length_toList] at hm
  refine ⟨i + m, by omega, by omega, by omega, ?_⟩
  rw [List.getElem_take, List.getElem_drop] at e
  rw [K_at (p := y)]
  rw [Array.getElem?_eq_getElem (by omega)]
  simpa using e
def Lo (a b out : Array Keyed) (i j : Nat) : Prop := Mg (a.toList ++ b.toList) out.toList (a.toList.drop i) (b.toList.drop j)
section
variable {a b out : Array Keyed} {i j : Nat}
theorem Lo.tb (m : Lo a b out i j) {y : Keyed} (h : b[j]? = some y) (le : ∀ m, i ≤ m → m < a.size → numOf y.1 ≤ PyProof.Rows.K a m) : Lo a b (out.push y) i (j + 1) := by
  unfold Lo at m ⊢
  rw [drop_at h] at m
  rw [Array.toList_push]
  refine m.right fun x hx z hz => ?_
  obtain ⟨k, h1, h2, h3⟩ := mem_drop hz
  rw [List.mem_singleton] at hx
  subst hx
  rw [h3]
  exact le k h1 h2
theorem Lo.ta (m : Lo a b out i j) {y : Keyed} (h : a[i]? = some y) (le : ∀ m, j ≤ m → m < b.size → numOf y.1 ≤ PyProof.Rows.K b m) : Lo a b (out.push y) (i + 1) j := by
  unfold Lo at m ⊢
  rw [drop_at h] at m
  rw [Array.toList_push]
  refine m.left fun x hx z hz => ?_
  obtain ⟨k, h1, h2, h3⟩ := mem_drop hz
  rw [List.mem_singleton] at hx
  subst hx
  rw [h3]
  exact le k h1 h2
theorem Lo.as (m : Lo a b out i j) (k : Nat) (le : ∀ m m', i ≤ m → m < i + k → m < a.size → j ≤ m' → m' < b.size → PyProof.Rows.K a m ≤ PyProof.Rows.K b m') : Lo a b (out ++ a.extract i (i + k)) (i + k) j := by
  unfold Lo at m ⊢
  rw [drop_ext a i k] at m
  rw [Array.toList_append]
  refine m.left fun x hx z hz => ?_
  obtain ⟨k1, h1, h2, h3, h4⟩ := mem_ext hx
  obtain ⟨k2, g1, g2, g3⟩ := mem_drop hz
  rw [h4, g3]
  exact le _ _ h1 h2 h3 g1 g2
theorem Lo.bs (m : Lo a b out i j) (k : Nat) (le : ∀ m m', j ≤ m → m < j + k → m < b.size → i ≤ m' → m' < a.size → PyProof.Rows.K b m ≤ PyProof.Rows.K a m') : Lo a b (out ++ b.extract j (j + k)) i (j + k) := by
  unfold Lo at m ⊢
  rw [drop_ext b j k] at m
  rw [Array.toList_append]
  refine m.right fun x hx z hz => ?_
  obtain ⟨k1, h1, h2, h3, h4⟩ := mem_ext hx
  obtain ⟨k2, g1, g2, g3⟩ := mem_drop hz
  rw [h4, g3]
  exact le _ _ h1 h2 h3 g1 g2
theorem Lo.fin (m : Lo a b out i j) (h : i = a.size ∨ j = b.size) : Mgd (a.toList ++ b.toList) (out ++ a.extract i a.size ++ b.extract j b.size).toList := by
  unfold Lo at m
  rw [Array.toList_append, Array.toList_append, ext_end, ext_end]
  rcases h with h | h
  · have e : a.toList.drop i = [] := List.drop_of_length_le (by simp [h])
    rw [e] at m ⊢
    rw [List.append_nil]
    exact m.doneQ
  · have e : b.toList.drop j = [] := List.drop_of_length_le (by simp [h])
    rw [e] at m ⊢
    rw [List.append_nil]
    exact m.doneP
theorem Lo.last (m : Lo a b out i j) (le : ∀ m m', j ≤ m → m < b.size → i ≤ m' → m' < a.size → PyProof.Rows.K b m ≤ PyProof.Rows.K a m') : Mgd (a.toList ++ b.toList) (out ++ b.extract j b.size ++ a.extract i a.size).toList := by
  unfold Lo at m
  rw [Array.toList_append, Array.toList_append, ext_end, ext_end]
  have m' : Mg (a.toList ++ b.toList) out.toList (a.toList.drop i) (b.toList.drop j ++ []) := by rwa [List.append_nil]
  refine (m'.right fun x hx z hz => ?_).doneP
  obtain ⟨k1, h1, h2, h3⟩ := mem_drop hx
  obtain ⟨k2, g1, g2, g3⟩ := mem_drop hz
  rw [h3, g3]
  exact le _ _ h1 h2 g1 g2
end
section
variable {pg : Program} {wo : World} {Ar : Around} {Ex : Value → Shared → Prop} {sh : Shared}
theorem wpS_ite {α : Type} {c : Prop} [Decidable c] {t e : StateT SortSt Sem α} {st : SortSt} {Qa : α → SortSt → Prop} (h1 : c → wpS (model pg wo) Ar Ex sh t Qa st) (h2 : ¬ c → wpS (model pg wo) Ar Ex sh e Qa st) : wpS (model pg wo) Ar Ex sh (if c then t else e) Qa st := by
  by_cases h : c
  · rw [if_pos h]; exact h1 h
  · rw [if_neg h]; exact h2 h
theorem wpS_elem {arr : Array Keyed} {i : Nat} {p : Keyed} {st : SortSt} {Qa : Keyed → SortSt → Prop} (h : arr[i]? = some p) (q : Qa p st) : wpS (model pg wo) Ar Ex sh (elem' arr i) Qa st := by
  rw [elem'_eq, h]
  exact wpS_pure q
theorem wpS_smg {g : Nat} {st : SortSt} {Qa : Unit → SortSt → Prop} (q : Qa () (setGal st g)) : wpS (model pg wo) Ar Ex sh (smg' g) Qa st := wpS_modify q
theorem wpS_ltP {st : SortSt} {x y : Keyed} {Qa : Option Bool → SortSt → Prop} (hk : kindOf st = oneType') (hx : ∃ t, x.1 = .int (numOf x.1) t) (hy : ∃ t, y.1 = .int (numOf y.1) t) (h : Qa (some (decide (numOf x.1 < numOf y.1))) st) : wpS (model pg wo) Ar Ex sh (lt' x y) Qa st := by
  obtain ⟨t, ht⟩ := hx
  obtain ⟨u, hu⟩ := hy
  exact wpS_lt2 hk ht hu h
def mlo' : Array Keyed → Array Keyed → StateT SortSt Sem (Array Keyed) := sortPriv% PySem.Builtin.mergeLo
theorem wpS_mlo {st : SortSt} {a b : Array Keyed} {Qa : Array Keyed → SortSt → Prop} (hk : kindOf st = oneType') (ka : IntKeys a) (kb : IntKeys b) (sa : SortedTo a a.size) (sb : SortedTo b b.size) (na : 1 ≤ a.size) (nb : 1 ≤ b.size)
    (h0 : ∀ m, m < a.size → PyProof.Rows.K b 0 ≤ PyProof.Rows.K a m) (hl : ∀ m, m < b.size → PyProof.Rows.K b m ≤ PyProof.Rows.K a (a.size - 1)) (m00 : Lo a b #[] 0 0)
    (h : ∀ (r : Array Keyed) g, Mgd (a.toList ++ b.toList) r.toList → Qa r (setGal st g)) : wpS (model pg wo) Ar Ex sh (mlo' a b) Qa st := by
  have lst : ∀ {out : Array Keyed} {i j : Nat}, Lo a b out i j → i + 1 = a.size → Mgd (a.toList ++ b.toList) (out ++ b.extract j b.size ++ a.extract i a.size).toList := fun {out i j} m e =>
    m.last fun k k' h1 h2 h3 h4 => by
      have e2 : k' = a.size - 1 := by omega
      rw [e2]
      exact hl k h2
  refine wpS_bind (wpS_lift (wpAny_rule ⟨rfl, ?_⟩))
  dsimp only
  obtain ⟨y0, e0⟩ := some_at (a := b) (i := 0) nb
  refine wpS_bind (wpS_elem e0 ?_)
  have m0 : Lo a b #[y0] 0 1 := m00.tb e0 fun m _ hm => by rw [← K_at e0]; exact h0 m hm
  refine wpS_ite (fun z => ?_) fun z1 => ?_
  · exact wpS_pure (h _ (gallopOf st) (m0.fin (.inr (by simpa using z))))
  have z1' : 1 < b.size := by
    have : ¬ 1 = b.size := by simpa using z1
    omega
  refine wpS_ite (fun z => ?_) fun z2 => ?_
  · exact wpS_pure (h _ (gallopOf st) (lst m0 (by simpa using z)))
  have z2' : 0 + 1 < a.size := by
    have : ¬ 0 + 1 = a.size := by simpa using z2
    omega
  refine wpS_bind (wpS_get ?_)
  refine wpS_bind (wpS_mono (wpS_forRange (I := fun x c z => (∃ g, z = setGal st g) ∧ ∃ out i j g, c = (none, out, i, j, g) ∧ Lo a b out i j ∧ i + 1 < a.size ∧ j < b.size ∧ x + 1 ≤ i + j)
    (Q := fun c z => (∃ g, z = setGal st g) ∧ ∃ r out i j g, c = (some r, out, i, j, g) ∧ Mgd (a.toList ++ b.toList) r.toList) ?stp ?fin ⟨⟨gallopOf st, rfl⟩, _, _, _, _, rfl, m0, z2', z1', by omega⟩) ?pst)
  case pst =>
    rintro c z ⟨⟨g, rfl⟩, r, out, i, j, g', rfl, hm⟩
    exact wpS_pure (h r g hm)
  case fin =>
    rintro c z ⟨_, out, i, j, g, rfl, m, h1, h2, h3⟩
    omega
  case stp =>
    rintro x c z _ xl ⟨⟨g0, rfl⟩, out, i, j, g, rfl, m, h1, h2, h3⟩
    dsimp only
    refine wpS_bind (wpS_mono (wpS_forRange (I := fun x c z => z = setGal st g0 ∧ ∃ out' i' j' c1 d1, c = (none, out', i', j', c1, d1) ∧ Lo a b out' i' j' ∧ i' + 1 < a.size ∧ j' < b.size ∧ x + (i + j) ≤ i' + j')
      (Q := fun c z => z = setGal st g0 ∧ ((∃ r out' i' j' c1 d1, c = (some r, out', i', j', c1, d1) ∧ Mgd (a.toList ++ b.toList) r.toList) ∨ ∃ out' i' j' c1 d1, c = (none, out', i', j', c1, d1) ∧ Lo a b out' i' j' ∧ i' + 1 < a.size ∧ j' < b.size ∧ i + j + 1 ≤ i' + j')) ?stp1 ?fin1 ⟨rfl, _, _, _, _, _, rfl, m, h1, h2, by omega⟩) ?pst1)
    case fin1 =>
      rintro c z ⟨rfl, out', i', j', c1, d1, rfl, m', k1, k2, k3⟩
      exact ⟨rfl, .inr ⟨_, _, _, _, _, rfl, m', k1, k2, by omega⟩⟩
    case stp1 =>
      rintro x1 c z _ xl1 ⟨rfl, out', i', j', c1, d1, rfl, m', k1, k2, k3⟩
      dsimp only
      obtain ⟨y, ey⟩ := some_at (a := b) (i := j') k2
      obtain ⟨w, ew⟩ := some_at (a := a) (i := i') (by omega)
      refine wpS_bind (wpS_elem ey (wpS_bind (wpS_elem ew (wpS_bind (wpS_ltP hk (intAt kb ey) (intAt ka ew) ?_)))))
      dsimp only
      refine wpS_ite (fun lt => ?_) fun lt => ?_
      · skip
        have lt' : numOf y.1 < numOf w.1 := by simpa using lt
        refine wpS_bind (wpS_elem ey ?_)
        have m2 := m'.tb ey fun q q1 q2 => by
          have := sa i' q q1 q2
          rw [K_at ew] at this
          omega
        refine wpS_ite (fun z => ?_) fun z => ?_
        · exact wpS_pure ⟨rfl, .inl ⟨_, _, _, _, _, _, rfl, m2.fin (.inr (by simpa using z))⟩⟩
        have z' : j' + 1 < b.size := by
          have : ¬ j' + 1 = b.size := by simpa using z
          omega
        refine wpS_ite (fun _ => ?_) fun _ => ?_
        · exact wpS_pure ⟨rfl, .inr ⟨_, _, _, _, _, rfl, m2, k1, z', by omega⟩⟩
        · exact wpS_pure ⟨rfl, _, _, _, _, _, rfl, m2, k1, z', by omega⟩
      · skip
        have lt' : numOf w.1 ≤ numOf y.1 := by simpa using lt
        refine wpS_bind (wpS_elem ew ?_)
        have m2 := m'.ta ew fun q q1 q2 => by
          have := sb j' q q1 q2
          rw [K_at ey] at this
          omega
        refine wpS_ite (fun z => ?_) fun z => ?_
        · exact wpS_pure ⟨rfl, .inl ⟨_, _, _, _, _, _, rfl, lst m2 (by simpa using z)⟩⟩
        have z' : i' + 1 + 1 < a.size := by
          have : ¬ i' + 1 + 1 = a.size := by simpa using z
          omega
        refine wpS_ite (fun _ => ?_) fun _ => ?_
        · exact wpS_pure ⟨rfl, .inr ⟨_, _, _, _, _, rfl, m2, z', k2, by omega⟩⟩
        · exact wpS_pure ⟨rfl, _, _, _, _, _, rfl, m2, z', k2, by omega⟩
    case pst1 =>
      rintro c z ⟨rfl, ⟨r, out', i', j', c1, d1, rfl, hm⟩ | ⟨out', i', j', c1, d1, rfl, m', k1, k2, k3⟩⟩
      · exact wpS_pure ⟨⟨g0, rfl⟩, _, _, _, _, _, rfl, hm⟩
      dsimp only
      refine wpS_bind (wpS_lift (wpAny_rule ⟨rfl, ?_⟩))
      refine wpS_bind (wpS_mono (wpS_forRange (I := fun x c z => (∃ g, z = setGal st g) ∧ ∃ out i j g c1 d1, c = (none, out, i, j, g, c1, d1) ∧ Lo a b out i j ∧ i + 1 < a.size ∧ j < b.size ∧ i' + j' ≤ i + j)
        (Q := fun c z => (∃ g, z = setGal st g) ∧ ((∃ r out i j g c1 d1, c = (some r, out, i, j, g, c1, d1) ∧ Mgd (a.toList ++ b.toList) r.toList) ∨ ∃ out i j g c1 d1, c = (none, out, i, j, g, c1, d1) ∧ Lo a b out i j ∧ i + 1 < a.size ∧ j < b.size ∧ i' + j' ≤ i + j)) ?stp2 ?fin2 ⟨⟨g0, rfl⟩, _, _, _, _, _, _, rfl, m', k1, k2, by omega⟩) ?pst2)
      case fin2 =>
        rintro c z ⟨hz, hr⟩
        exact ⟨hz, .inr hr⟩
      case pst2 =>
        rintro c z ⟨⟨g1, rfl⟩, ⟨r, out, i, j, g, c1, d1, rfl, hm⟩ | ⟨out, i, j, g, c1, d1, rfl, m, l1, l2, l3⟩⟩
        · exact wpS_pure ⟨⟨g1, rfl⟩, _, _, _, _, _, rfl, hm⟩
        · exact wpS_bind (wpS_smg (wpS_pure ⟨⟨_, rfl⟩, _, _, _, _, rfl, m, l1, l2, by dsimp only; omega⟩))
      case stp2 =>
        clear m m' h1 h2 h3 m0 m00
        rintro x2 c z _ xl2 ⟨⟨g1, rfl⟩, out, i, j, g, c1, d1, rfl, m, l1, l2, l3⟩
        dsimp only
        obtain ⟨y, ey⟩ := some_at (a := b) (i := j) l2
        obtain ⟨ty, hty⟩ := intAt kb ey
        refine wpS_ite (fun _ => ?_) fun _ => ?_
        all_goals
          refine wpS_bind (wpS_smg (wpS_bind (wpS_elem ey (wpS_bind (wpS_gallop (left := false) hk ka hty (by omega) (by omega) ?_ fun k n1 n2 n3 => ?_)))))
          · skip
            intro p q h1 h2
            unfold pB
            have := sa (i + p) (i + q) (by omega) (by omega)
            simp only [Bool.false_eq_true, if_false, Bool.not_eq_true', decide_eq_false_iff_not]
            omega
          have n2' : ∀ q, i ≤ q → q < i + k → PyProof.Rows.K a q ≤ numOf y.1 := fun q q1 q2 => by
            have := n2 (q - i) (by omega)
            unfold pB at this
            simp only [Bool.false_eq_true, if_false, Bool.not_eq_true', decide_eq_false_iff_not] at this
            have e : i + (q - i) = q := by omega
            rw [e] at this
            omega
          have n3' : i + k < a.size → ∀ q, i + k ≤ q → q < a.size → numOf y.1 ≤ PyProof.Rows.K a q := fun _ q q1 q2 => by
            have := n3 (q - i) (by omega) (by omega)
            unfold pB at this
            simp only [Bool.false_eq_true, if_false, Bool.not_eq_false', decide_eq_true_eq] at this
            have e : i + (q - i) = q := by omega
            rw [e] at this
            omega
          have m2 : Lo a b (out ++ a.extract i (i + k)) (i + k) j := m.as k fun q q' g1 g2 g3 g4 g5 => by
            have f1 := n2' q g1 g2
            have f2 := sb j q' g4 g5
            rw [K_at ey] at f2
            omega
          dsimp only
          refine wpS_ite (fun k0 => wpS_ite (fun z => wpS_pure ⟨⟨_, rfl⟩, .inl ⟨_, _, _, _, _, _, _, rfl, lst m2 (by simpa using z)⟩⟩) fun z1 => wpS_ite (fun z => wpS_pure ⟨⟨_, rfl⟩, .inl ⟨_, _, _, _, _, _, _, rfl, m2.fin (.inl (by simpa using z))⟩⟩) fun z2 => ?_) fun k0 => ?_
          have f1 : i + k + 1 < a.size := by
            have w1 : ¬ i + k + 1 = a.size := by simpa using z1
            have w2 : ¬ i + k = a.size := by simpa using z2
            omega
          have m3 := m2
          have f2 := n3' (by omega)
          rotate_left
          have m3 := m
          have f1 := l1
          have f2 : ∀ q, i ≤ q → q < a.size → numOf y.1 ≤ PyProof.Rows.K a q := fun q q1 q2 => n3' (by omega) q (by omega) q2
          rotate_left
          all_goals
            obtain ⟨w, ew⟩ := some_at (Nat.lt_of_succ_lt f1)
            obtain ⟨tw, htw⟩ := intAt ka ew
            have m4 := m3.tb ey f2
            refine wpS_bind (wpS_elem ey (wpS_ite (fun z => wpS_pure ⟨⟨_, rfl⟩, .inl ⟨_, _, _, _, _, _, _, rfl, m4.fin (.inr (by simpa using z))⟩⟩) fun z => ?_))
            have z' : j + 1 < b.size := by
              have : ¬ j + 1 = b.size := by simpa using z
              omega
            refine wpS_bind (wpS_elem ew (wpS_bind (wpS_gallop (left := true) hk kb htw (by omega) (by omega) ?_ fun k' p1 p2 p3 => ?_)))
            · skip
              intro p q h1 h2
              unfold pB
              have := sb (j + 1 + p) (j + 1 + q) (by omega) (by omega)
              simp only [if_true, decide_eq_true_eq]
              omega
            have p2' : ∀ q, j + 1 ≤ q → q < j + 1 + k' → PyProof.Rows.K b q ≤ numOf w.1 := fun q q1 q2 => by
              have := p2 (q - (j + 1)) (by omega)
              unfold pB at this
              simp only [if_true, decide_eq_true_eq] at this
              have e : j + 1 + (q - (j + 1)) = q := by omega
              rw [e] at this
              omega
            have p3' : ∀ q, j + 1 + k' ≤ q → q < b.size → numOf w.1 ≤ PyProof.Rows.K b q := fun q q1 q2 => by
              have := p3 (q - (j + 1)) (by omega) (by omega)
              unfold pB at this
              simp only [if_true, decide_eq_false_iff_not] at this
              have e : j + 1 + (q - (j + 1)) = q := by omega
              rw [e] at this
              omega
            have m5 := m4.bs k' fun q q' g1 g2 g3 g4 g5 => by
              have f1 := p2' q g1 g2
              have f2 := sa _ q' g4 g5
              rw [K_at ew] at f2
              omega
            dsimp only
            refine wpS_ite (fun k1 => wpS_ite (fun z => wpS_pure ⟨⟨_, rfl⟩, .inl ⟨_, _, _, _, _, _, _, rfl, m5.fin (.inr (by simpa using z))⟩⟩) fun z3 => ?_) fun k1 => ?_
            have f3 : j + 1 + k' < b.size := by
              have : ¬ j + 1 + k' = b.size := by simpa using z3
              omega
            have m6 := m5.ta ew p3'
            rotate_left
            have f3 := z'
            have m6 := m4.ta ew fun q q1 q2 => p3' q (by omega) q2
            rotate_left
            all_goals
              refine wpS_bind (wpS_elem ew (wpS_ite (fun z => wpS_pure ⟨⟨_, rfl⟩, .inl ⟨_, _, _, _, _, _, _, rfl, lst m6 (by simpa using z)⟩⟩) fun z4 => ?_))
              have f4 : ¬ _ = _ := fun e => z4 (beq_iff_eq.mpr e)
              exact wpS_ite (fun _ => wpS_pure ⟨⟨_, rfl⟩, .inr ⟨_, _, _, _, _, _, rfl, m6, by omega, f3, by omega⟩⟩) fun _ => wpS_pure ⟨⟨_, rfl⟩, _, _, _, _, _, _, rfl, m6, by omega, f3, by omega⟩
end
end L2
namespace L2
open PySem PyProof.Rows
/-! THE LONG SORT, 4: the merge from the right -/
structure Mh (all p q o : List Keyed) : Prop where
  so : (nums o).Pairwise (· ≤ ·)
  sp : (nums p).Pairwise (· ≤ ·)
  sq : (nums q).Pairwise (· ≤ ·)
  po : ∀ x ∈ p, ∀ y ∈ o, numOf x.1 ≤ numOf y.1
  qo : ∀ x ∈ q, ∀ y ∈ o, numOf x.1 ≤ numOf y.1
  pm : (p ++ q ++ o).Perm all
theorem Mh.right {all p q q' o : List Keyed} (m : Mh all p (q ++ q') o) (h : ∀ x ∈ p, ∀ y ∈ q', numOf x.1 ≤ numOf y.1) : Mh all p q (q' ++ o) := by
  obtain ⟨s1, s2, s3⟩ := pair_app.mp m.sq
  refine ⟨pair_app.mpr ⟨s2, m.so, fun x hx y hy => m.qo x (List.mem_append_right _ hx) y hy⟩, m.sp, s1, fun x hx y hy => ?_, fun x hx y hy => ?_, ?_⟩
  · rcases List.mem_append.mp hy with z | z
    · exact h x hx y z
    · exact m.po x hx y z
  · rcases List.mem_append.mp hy with z | z
    · exact s3 x hx y z
    · exact m.qo x (List.mem_append_left _ hx) y z
  · have := m.pm
    simpa [List.append_assoc] using this
theorem Mh.left {all p p' q o : List Keyed} (m : Mh all (p ++ p') q o) (h : ∀ x ∈ q, ∀ y ∈ p', numOf x.1 ≤ numOf y.1) : Mh all p q (p' ++ o) := by
  obtain ⟨s1, s2, s3⟩ := pair_app.mp m.sp
  refine ⟨pair_app.mpr ⟨s2, m.so, fun x hx y hy => m.po x (List.mem_append_right _ hx) y hy⟩, s1, m.sq, fun x hx y hy => ?_, fun x hx y hy => ?_, ?_⟩
  · rcases List.mem_append.mp hy with z | z
    · exact s3 x hx y z
    · exact m.po x (List.mem_append_left _ hx) y z
  · rcases List.mem_append.mp hy with z | z
    · exact h x hx y z
    · exact m.qo x hx y z
  · refine List.Perm.trans ?_ m.pm
    rw [List.append_assoc, List.append_assoc, List.append_assoc]
    refine List.Perm.append_left p ?_
    rw [← List.append_assoc, ← List.append_assoc]
    exact List.Perm.append_right o List.perm_append_comm
theorem Mh.doneP {all p o : List Keyed} (m : Mh all p [] o) : Mgd all (p ++ o) :=
  ⟨by simpa using m.pm, pair_app.mpr ⟨m.sp, m.so, m.po⟩⟩
theorem Mh.doneQ {all q o : List Keyed} (m : Mh all [] q o) : Mgd all (q ++ o) :=
  ⟨by simpa using m.pm, pair_app.mpr ⟨m.sq, m.so, m.qo⟩⟩
theorem take_at {a : Array Keyed} {i : Nat} {z : Keyed} (h : a[i]? = some z) : a.toList.take (i + 1) = a.toList.take i ++ [z] := by
  rw [List.take_add_one]
  have : a.toList[i]? = some z := by simpa using h
  rw [this]
  rfl
theorem take_ext (a : Array Keyed) {i n : Nat} (h : i ≤ n) : a.toList.take n = a.toList.take i ++ (a.extract i n).toList := by
  rw [ext_list]
  obtain ⟨k, rfl⟩ : ∃ k, n = i + k := ⟨n - i, by omega⟩
  rw [Nat.add_sub_cancel_left, List.take_add]
theorem ext_zero (a : Array Keyed) (n : Nat) : (a.extract 0 n).toList = a.toList.take n := by
  rw [ext_list]
  simp
theorem mem_take {a : Array Keyed} {n : Nat} {y : Keyed} (h : y ∈ a.toList.take n) : ∃ m, m < n ∧ m < a.size ∧ numOf y.1 = PyProof.Rows.K a m := by
  rw [← ext_zero] at h
  obtain ⟨m, _, h1, h2, h3⟩ := mem_ext h
  exact ⟨m, h1, h2, h3⟩
def Hi (a b out : Array Keyed) (i j : Nat) : Prop := Mh (a.toList ++ b.toList) (a.toList.take i) (b.toList.take j) out.toList.reverse
section
variable {a b out : Array Keyed} {i j : Nat}
theorem Hi.tb (m : Hi a b out i (j + 1)) {y : Keyed} (h : b[j]? = some y) (le : ∀ m, m < i → m < a.size → PyProof.Rows.K a m ≤ numOf y.1) : Hi a b (out.push y) i j := by
  unfold Hi at m ⊢
  rw [take_at h] at m
  rw [Array.toList_push, List.reverse_append]
  refine m.right fun x hx z hz => ?_
  obtain ⟨k, h1, h2, h3⟩ := mem_take hx
  rw [List.mem_singleton] at hz
  subst hz
  rw [h3]
  exact le k h1 h2
theorem Hi.ta (m : Hi a b out (i + 1) j) {y : Keyed} (h : a[i]? = some y) (le : ∀ m, m < j → m < b.size → PyProof.Rows.K b m ≤ numOf y.1) : Hi a b (out.push y) i j := by
  unfold Hi at m ⊢
  rw [take_at h] at m
  rw [Array.toList_push, List.reverse_append]
  refine m.left fun x hx z hz => ?_
  obtain ⟨k, h1, h2, h3⟩ := mem_take hx
  rw [List.mem_singleton] at hz
  subst hz
  rw [h3]
  exact le k h1 h2
theorem Hi.as (m : Hi a b out i j) {k : Nat} (hk : k ≤ i) (le : ∀ m m', m < j → m < b.size → k ≤ m' → m' < i → m' < a.size → PyProof.Rows.K b m ≤ PyProof.Rows.K a m') : Hi a b (out ++ (a.extract k i).reverse) k j := by
  unfold Hi at m ⊢
  rw [take_ext a hk] at m
  rw [Array.toList_append, Array.toList_reverse, List.reverse_append, List.reverse_reverse]
  refine m.left fun x hx z hz => ?_
  obtain ⟨k1, h1, h2, h3⟩ := mem_take hx
  obtain ⟨k2, g1, g2, g3, g4⟩ := mem_ext hz
  rw [h3, g4]
  exact le _ _ h1 h2 g1 g2 g3
theorem Hi.bs (m : Hi a b out i j) {k : Nat} (hk : k ≤ j) (le : ∀ m m', m < i → m < a.size → k ≤ m' → m' < j → m' < b.size → PyProof.Rows.K a m ≤ PyProof.Rows.K b m') : Hi a b (out ++ (b.extract k j).reverse) i k := by
  unfold Hi at m ⊢
  rw [take_ext b hk] at m
  rw [Array.toList_append, Array.toList_reverse, List.reverse_append, List.reverse_reverse]
  refine m.right fun x hx z hz => ?_
  obtain ⟨k1, h1, h2, h3⟩ := mem_take hx
  obtain ⟨k2, g1, g2, g3, g4⟩ := mem_ext hz
  rw [h3, g4]
  exact le _ _ h1 h2 g1 g2 g3
theorem Hi.fin (m : Hi a b out i j) (h : i = 0 ∨ j = 0) : Mgd (a.toList ++ b.toList) (a.extract 0 i ++ b.extract 0 j ++ out.reverse).toList := by
  unfold Hi at m
  rw [Array.toList_append, Array.toList_append, ext_zero, ext_zero, Array.toList_reverse]
  rcases h with h | h
  · subst h
    rw [List.take_zero] at m ⊢
    rw [List.nil_append]
    exact m.doneQ
  · subst h
    rw [List.take_zero] at m ⊢
    rw [List.append_nil]
    exact m.doneP
theorem Hi.first (m : Hi a b out i j) (le : ∀ m m', m < j → m < b.size → m' < i → m' < a.size → PyProof.Rows.K b m ≤ PyProof.Rows.K a m') : Mgd (a.toList ++ b.toList) (b.extract 0 j ++ a.extract 0 i ++ out.reverse).toList := by
  unfold Hi at m
  rw [Array.toList_append, Array.toList_append, ext_zero, ext_zero, Array.toList_reverse]
  have m' : Mh (a.toList ++ b.toList) ([] ++ a.toList.take i) (b.toList.take j) out.toList.reverse := by rwa [List.nil_append]
  rw [List.append_assoc]
  refine (m'.left fun x hx z hz => ?_).doneQ
  obtain ⟨k1, h1, h2, h3⟩ := mem_take hx
  obtain ⟨k2, g1, g2, g3⟩ := mem_take hz
  rw [h3, g3]
  exact le _ _ h1 h2 g1 g2
end
section
variable {pg : Program} {wo : World} {Ar : Around} {Ex : Value → Shared → Prop} {sh : Shared}
def mhi' : Array Keyed → Array Keyed → StateT SortSt Sem (Array Keyed) := sortPriv% PySem.Builtin.mergeHi
theorem pred_succ {n : Nat} (h : 1 ≤ n) : n - 1 + 1 = n := by omega
theorem wpS_mhi {st : SortSt} {a b : Array Keyed} {Qa : Array Keyed → SortSt → Prop} (hk : kindOf st = oneType') (ka : IntKeys a) (kb : IntKeys b) (sa : SortedTo a a.size) (sb : SortedTo b b.size) (na : 1 ≤ a.size) (nb : 1 ≤ b.size)
    (h0 : ∀ m, m < a.size → PyProof.Rows.K b 0 ≤ PyProof.Rows.K a m) (hl : ∀ m, m < b.size → PyProof.Rows.K b m ≤ PyProof.Rows.K a (a.size - 1)) (m00 : Hi a b #[] a.size b.size)
    (h : ∀ (r : Array Keyed) g, Mgd (a.toList ++ b.toList) r.toList → Qa r (setGal st g)) : wpS (model pg wo) Ar Ex sh (mhi' a b) Qa st := by
  have lst : ∀ {out : Array Keyed} {i j : Nat}, Hi a b out i j → j = 1 → Mgd (a.toList ++ b.toList) (b.extract 0 j ++ a.extract 0 i ++ out.reverse).toList := fun {out i j} m e =>
    m.first fun k k' h1 h2 h3 h4 => by
      have e2 : k = 0 := by omega
      rw [e2]
      exact h0 k' h4
  refine wpS_bind (wpS_lift (wpAny_rule ⟨rfl, ?_⟩))
  dsimp only
  obtain ⟨y0, e0⟩ := some_at (a := a) (i := a.size - 1) (by omega)
  refine wpS_bind (wpS_elem e0 ?_)
  have m0 : Hi a b #[y0] (a.size - 1) b.size := Hi.ta (out := #[]) (by rwa [pred_succ na]) e0 fun m _ hm => by rw [← K_at e0]; exact hl m hm
  refine wpS_ite (fun z => ?_) fun z1 => ?_
  · exact wpS_pure (h _ (gallopOf st) (m0.fin (.inl (by simpa using z))))
  have z1' : ¬ a.size - 1 = 0 := fun e => z1 (beq_iff_eq.mpr e)
  refine wpS_ite (fun z => ?_) fun z2 => ?_
  · exact wpS_pure (h _ (gallopOf st) (lst m0 (by simpa using z)))
  have z2' : ¬ b.size = 1 := fun e => z2 (beq_iff_eq.mpr e)
  refine wpS_bind (wpS_get ?_)
  refine wpS_bind (wpS_mono (wpS_forRange (I := fun x c z => (∃ g, z = setGal st g) ∧ ∃ out i j g, c = (none, i, j, out, g) ∧ Hi a b out i j ∧ (1 ≤ i ∧ i ≤ a.size) ∧ (2 ≤ j ∧ j ≤ b.size) ∧ x + 1 + i + j ≤ a.size + b.size)
    (Q := fun c z => (∃ g, z = setGal st g) ∧ ∃ r out i j g, c = (some r, i, j, out, g) ∧ Mgd (a.toList ++ b.toList) r.toList) ?stp ?fin ⟨⟨gallopOf st, rfl⟩, _, _, _, _, rfl, m0, by omega, by omega, by omega⟩) ?pst)
  case pst =>
    rintro c z ⟨⟨g, rfl⟩, r, out, i, j, g', rfl, hm⟩
    exact wpS_pure (h r g hm)
  case fin =>
    rintro c z ⟨_, out, i, j, g, rfl, m, h1, h2, h3⟩
    omega
  case stp =>
    rintro x c z _ xl ⟨⟨g0, rfl⟩, out, i, j, g, rfl, m, h1, h2, h3⟩
    dsimp only
    refine wpS_bind (wpS_mono (wpS_forRange (I := fun x c z => z = setGal st g0 ∧ ∃ out' i' j' c1 d1, c = (none, i', j', out', c1, d1) ∧ Hi a b out' i' j' ∧ (1 ≤ i' ∧ i' ≤ a.size) ∧ (2 ≤ j' ∧ j' ≤ b.size) ∧ x + (i' + j') ≤ i + j)
      (Q := fun c z => z = setGal st g0 ∧ ((∃ r out' i' j' c1 d1, c = (some r, i', j', out', c1, d1) ∧ Mgd (a.toList ++ b.toList) r.toList) ∨ ∃ out' i' j' c1 d1, c = (none, i', j', out', c1, d1) ∧ Hi a b out' i' j' ∧ (1 ≤ i' ∧ i' ≤ a.size) ∧ (2 ≤ j' ∧ j' ≤ b.size) ∧ i' + j' + 1 ≤ i + j)) ?stp1 ?fin1 ⟨rfl, _, _, _, _, _, rfl, m, h1, h2, by omega⟩) ?pst1)
    case fin1 =>
      rintro c z ⟨rfl, out', i', j', c1, d1, rfl, m', k1, k2, k3⟩
      exact ⟨rfl, .inr ⟨_, _, _, _, _, rfl, m', k1, k2, by omega⟩⟩
    case stp1 =>
      rintro x1 c z _ xl1 ⟨rfl, out', i', j', c1, d1, rfl, m', k1, k2, k3⟩
      dsimp only
      obtain ⟨y, ey⟩ := some_at (a := b) (i := j' - 1) (by omega)
      obtain ⟨w, ew⟩ := some_at (a := a) (i := i' - 1) (by omega)
      refine wpS_bind (wpS_elem ey (wpS_bind (wpS_elem ew (wpS_bind (wpS_ltP hk (intAt kb ey) (intAt ka ew) ?_)))))
      dsimp only
      refine wpS_ite (fun lt => ?_) fun lt => ?_
      · have lt' : numOf y.1 < numOf w.1 := by simpa using lt
        refine wpS_bind (wpS_elem ew ?_)
        have m2 := Hi.ta (i := i' - 1) (by rwa [pred_succ k1.1]) ew fun q q1 q2 => by
          have := sb q (j' - 1) (by omega) (by omega)
          rw [K_at ey] at this
          omega
        refine wpS_ite (fun z => ?_) fun z => ?_
        · exact wpS_pure ⟨rfl, .inl ⟨_, _, _, _, _, _, rfl, m2.fin (.inl (by simpa using z))⟩⟩
        have z' : ¬ _ = _ := fun e => z (beq_iff_eq.mpr e)
        refine wpS_ite (fun _ => ?_) fun _ => ?_
        · exact wpS_pure ⟨rfl, .inr ⟨_, _, _, _, _, rfl, m2, by omega, k2, by omega⟩⟩
        · exact wpS_pure ⟨rfl, _, _, _, _, _, rfl, m2, by omega, k2, by omega⟩
      · have lt' : numOf w.1 ≤ numOf y.1 := by simpa using lt
        refine wpS_bind (wpS_elem ey ?_)
        have m2 := Hi.tb (j := j' - 1) (by rwa [pred_succ (by omega)]) ey fun q q1 q2 => by
          have := sa q (i' - 1) (by omega) (by omega)
          rw [K_at ew] at this
          omega
        refine wpS_ite (fun z => ?_) fun z => ?_
        · exact wpS_pure ⟨rfl, .inl ⟨_, _, _, _, _, _, rfl, lst m2 (by simpa using z)⟩⟩
        have z' : ¬ _ = _ := fun e => z (beq_iff_eq.mpr e)
        refine wpS_ite (fun _ => ?_) fun _ => ?_
        · exact wpS_pure ⟨rfl, .inr ⟨_, _, _, _, _, rfl, m2, k1, by omega, by omega⟩⟩
        · exact wpS_pure ⟨rfl, _, _, _, _, _, rfl, m2, k1, by omega, by omega⟩
    case pst1 =>
      rintro c z ⟨rfl, ⟨r, out', i', j', c1, d1, rfl, hm⟩ | ⟨out', i', j', c1, d1, rfl, m', k1, k2, k3⟩⟩
      · exact wpS_pure ⟨⟨g0, rfl⟩, _, _, _, _, _, rfl, hm⟩
      dsimp only
      refine wpS_bind (wpS_lift (wpAny_rule ⟨rfl, ?_⟩))
      refine wpS_bind (wpS_mono (wpS_forRange (I := fun x c z => (∃ g, z = setGal st g) ∧ ∃ out i j g c1 d1, c = (none, i, j, out, g, c1, d1) ∧ Hi a b out i j ∧ (1 ≤ i ∧ i ≤ a.size) ∧ (2 ≤ j ∧ j ≤ b.size) ∧ i + j ≤ i' + j')
        (Q := fun c z => (∃ g, z = setGal st g) ∧ ((∃ r out i j g c1 d1, c = (some r, i, j, out, g, c1, d1) ∧ Mgd (a.toList ++ b.toList) r.toList) ∨ ∃ out i j g c1 d1, c = (none, i, j, out, g, c1, d1) ∧ Hi a b out i j ∧ (1 ≤ i ∧ i ≤ a.size) ∧ (2 ≤ j ∧ j ≤ b.size) ∧ i + j ≤ i' + j')) ?stp2 ?fin2 ⟨⟨g0, rfl⟩, _, _, _, _, _, _, rfl, m', k1, k2, by omega⟩) ?pst2)
      case fin2 =>
        rintro c z ⟨hz, hr⟩
        exact ⟨hz, .inr hr⟩
      case pst2 =>
        rintro c z ⟨⟨g1, rfl⟩, ⟨r, out, i, j, g, c1, d1, rfl, hm⟩ | ⟨out, i, j, g, c1, d1, rfl, m, l1, l2, l3⟩⟩
        · exact wpS_pure ⟨⟨g1, rfl⟩, _, _, _, _, _, rfl, hm⟩
        · exact wpS_bind (wpS_smg (wpS_pure ⟨⟨_, rfl⟩, _, _, _, _, rfl, m, l1, l2, by dsimp only; omega⟩))
      case stp2 =>
        clear m m' h1 h2 h3 m0 m00
        rintro x2 c z _ xl2 ⟨⟨g1, rfl⟩, out, i, j, g, c1, d1, rfl, m, l1, l2, l3⟩
        dsimp only
        obtain ⟨y, ey⟩ := some_at (a := b) (i := j - 1) (by omega)
        obtain ⟨ty, hty⟩ := intAt kb ey
        refine wpS_ite (fun _ => ?_) fun _ => ?_
        all_goals
          refine wpS_bind (wpS_smg (wpS_bind (wpS_elem ey (wpS_bind (wpS_gallop (left := false) hk ka hty (by omega) (by omega) ?_ fun k n1 n2 n3 => ?_)))))
          · intro p q h1 h2
            unfold pB
            have := sa (0 + p) (0 + q) (by omega) (by omega)
            simp only [Bool.false_eq_true, if_false, Bool.not_eq_true', decide_eq_false_iff_not]
            omega
          have n2' : ∀ q, q < k → PyProof.Rows.K a q ≤ numOf y.1 := fun q q1 => by
            have := n2 q q1
            unfold pB at this
            simp only [Bool.false_eq_true, if_false, Bool.not_eq_true', decide_eq_false_iff_not, Nat.zero_add] at this
            omega
          have n3' : ∀ q, k ≤ q → q < i → numOf y.1 ≤ PyProof.Rows.K a q := fun q q1 q2 => by
            have := n3 q q1 q2
            unfold pB at this
            simp only [Bool.false_eq_true, if_false, Bool.not_eq_false', decide_eq_true_eq, Nat.zero_add] at this
            omega
          have m2 : Hi a b (out ++ (a.extract k i).reverse) k j := m.as n1 fun q q' g1 g2 g3 g4 g5 => by
            have f1 := n3' q' g3 g4
            have f2 := sb q (j - 1) (by omega) (by omega)
            rw [K_at ey] at f2
            omega
          dsimp only
          refine wpS_ite (fun k0 => wpS_ite (fun z => wpS_pure ⟨⟨_, rfl⟩, .inl ⟨_, _, _, _, _, _, _, rfl, m2.fin (.inl (by simpa using z))⟩⟩) fun z1 => ?_) fun k0 => ?_
          have w1 : ¬ _ = _ := fun e => z1 (beq_iff_eq.mpr e)
          have f1 : 1 ≤ k := by omega
          have m3 := m2
          have f2 := n2'
          have f5 : k ≤ i := n1
          rotate_left
          have m3 := m
          have f1 := l1.1
          have f2 : ∀ q, q < i → PyProof.Rows.K a q ≤ numOf y.1 := fun q q1 => n2' q (by omega)
          have f5 : i ≤ i := Nat.le_refl _
          rotate_left
          all_goals
            obtain ⟨w, ew⟩ := some_at (a := a) (Nat.lt_of_lt_of_le (Nat.sub_lt f1 Nat.one_pos) (Nat.le_trans f5 l1.2))
            obtain ⟨tw, htw⟩ := intAt ka ew
            have m4 := Hi.tb (j := j - 1) (by rw [pred_succ (by omega)]; exact m3) ey fun q q1 _ => f2 q q1
            refine wpS_bind (wpS_elem ey (wpS_ite (fun z => wpS_pure ⟨⟨_, rfl⟩, .inl ⟨_, _, _, _, _, _, _, rfl, lst m4 (by simpa using z)⟩⟩) fun z => ?_))
            have z' : ¬ _ = _ := fun e => z (beq_iff_eq.mpr e)
            refine wpS_bind (wpS_elem ew (wpS_bind (wpS_gallop (left := true) hk kb htw (by omega) (by omega) ?_ fun k' p1 p2 p3 => ?_)))
            · intro p q h1 h2
              unfold pB
              have := sb (0 + p) (0 + q) (by omega) (by omega)
              simp only [if_true, decide_eq_true_eq]
              omega
            have p2' : ∀ q, q < k' → PyProof.Rows.K b q ≤ numOf w.1 := fun q q1 => by
              have := p2 q q1
              unfold pB at this
              simp only [if_true, decide_eq_true_eq, Nat.zero_add] at this
              omega
            have p3' : ∀ q, k' ≤ q → q < j - 1 → numOf w.1 ≤ PyProof.Rows.K b q := fun q q1 q2 => by
              have := p3 q q1 q2
              unfold pB at this
              simp only [if_true, decide_eq_false_iff_not, Nat.zero_add] at this
              omega
            have m5 := m4.bs p1 fun q q' g1 g2 g3 g4 g5 => by
              have f1 := p3' q' g3 g4
              have f2 := sa q _ (Nat.le_sub_one_of_lt g1) (by omega)
              rw [K_at ew] at f2
              omega
            dsimp only
            refine wpS_ite (fun k1 => wpS_ite (fun z => wpS_pure ⟨⟨_, rfl⟩, .inl ⟨_, _, _, _, _, _, _, rfl, lst m5 (by simpa using z)⟩⟩) fun z3 => wpS_ite (fun z => wpS_pure ⟨⟨_, rfl⟩, .inl ⟨_, _, _, _, _, _, _, rfl, m5.fin (.inr (by simpa using z))⟩⟩) fun z4 => ?_) fun k1 => ?_
            have w3 : ¬ _ = _ := fun e => z3 (beq_iff_eq.mpr e)
            have w4 : ¬ _ = _ := fun e => z4 (beq_iff_eq.mpr e)
            have f3 : 2 ≤ k' := by omega
            have m6 := Hi.ta (by rw [pred_succ f1]; exact m5) ew fun q q1 _ => p2' q q1
            have f6 : k' ≤ j - 1 := p1
            rotate_left
            have f3 : 2 ≤ j - 1 := by omega
            have m6 := Hi.ta (by rw [pred_succ f1]; exact m4) ew fun q q1 _ => p2' q (by omega)
            have f6 : j - 1 ≤ j - 1 := Nat.le_refl _
            rotate_left
            all_goals
              refine wpS_bind (wpS_elem ew (wpS_ite (fun z => wpS_pure ⟨⟨_, rfl⟩, .inl ⟨_, _, _, _, _, _, _, rfl, m6.fin (.inl (by simpa using z))⟩⟩) fun z4 => ?_))
              have f4 : ¬ _ = _ := fun e => z4 (beq_iff_eq.mpr e)
              exact wpS_ite (fun _ => wpS_pure ⟨⟨_, rfl⟩, .inr ⟨_, _, _, _, _, _, rfl, m6, by omega, ⟨f3, by omega⟩, by omega⟩⟩) fun _ => wpS_pure ⟨⟨_, rfl⟩, _, _, _, _, _, _, rfl, m6, by omega, ⟨f3, by omega⟩, by omega⟩
end
end L2
namespace L2
open PySem PyProof.Rows
/-! THE LONG SORT, 5: two runs side by side made one -/
theorem wrote : ∀ (l : List Keyed) (c o : Nat) (xs : Array Keyed) (P Y S : List Keyed), xs.toList = P ++ Y ++ S → P.length = o + c → Y.length = l.length →
    ((l.zipIdx c).foldl (fun a (pj : Keyed × Nat) => a.setIfInBounds (o + pj.2) pj.1) xs).toList = P ++ l ++ S
  | [], c, o, xs, P, Y, S, e, _, hy => by
    have : Y = [] := List.length_eq_zero_iff.mp hy
    subst this
    exact e
  | x :: l, c, o, xs, P, Y, S, e, hp, hy => by
    cases Y with
    | nil => cases hy
    | cons y Y =>
      rw [List.zipIdx_cons, List.foldl_cons]
      have e2 : (xs.setIfInBounds (o + c) x).toList = (P ++ [x]) ++ Y ++ S := by
        rw [Array.toList_setIfInBounds, e, ← hp]
        simp
      rw [wrote l (c + 1) o _ (P ++ [x]) Y S e2 (by simp [hp]; omega) (by simpa using hy)]
      simp
theorem K_seg {arr : Array Keyed} {P A S : List Keyed} (e : arr.toList = P ++ A ++ S) {i : Nat} (hi : i < A.length) : arr[P.length + i]? = some A[i] := by
  rw [← Array.getElem?_toList, e, List.append_assoc, List.getElem?_append_right (by omega), List.getElem?_append_left (by omega)]
  simp [hi]
theorem nums_le {A : List Keyed} (h : (nums A).Pairwise (· ≤ ·)) {i j : Nat} (hij : i ≤ j) (hj : j < A.length) : numOf (A[i]'(by omega)).1 ≤ numOf A[j].1 := by
  rcases Nat.lt_or_ge i j with z | z
  · have := (List.pairwise_iff_getElem.mp h) i j (by simp; omega) (by simpa using hj) z
    simpa using this
  · have e : i = j := by omega
    subst e
    exact Int.le_refl _
theorem sortedTo_of {a : Array Keyed} (h : (nums a.toList).Pairwise (· ≤ ·)) : SortedTo a a.size := by
  intro i j hij hj
  have := nums_le h hij (by simpa using hj)
  rw [K_at (p := a[i]'(by omega)) (Array.getElem?_eq_getElem _), K_at (p := a[j]'hj) (Array.getElem?_eq_getElem _)]
  simpa using this
theorem K_mem {a : Array Keyed} {m : Nat} (h : m < a.size) : ∃ p ∈ a.toList, PyProof.Rows.K a m = numOf p.1 :=
  ⟨a[m], by simp, K_at (Array.getElem?_eq_getElem h)⟩
section
variable {pg : Program} {wo : World} {Ar : Around} {Ex : Value → Shared → Prop} {sh : Shared}
theorem wpS_set {s' st : SortSt} {Qa : PUnit → SortSt → Prop} (h : Qa ⟨⟩ s') : wpS (model pg wo) Ar Ex sh (set s' : StateT SortSt Sem PUnit) Qa st := by
  unfold wpS
  rw [StateT.run_set]
  exact wpAny_pure ⟨rfl, h⟩
theorem two_pre {a b : Array Keyed} {y w : Keyed} (ey : b[0]? = some y) (ew : a[a.size - 1]? = some w) (h0 : ∀ x ∈ a.toList, numOf y.1 ≤ numOf x.1) (hl : ∀ x ∈ b.toList, numOf x.1 ≤ numOf w.1) :
    (∀ m, m < a.size → PyProof.Rows.K b 0 ≤ PyProof.Rows.K a m) ∧ ∀ m, m < b.size → PyProof.Rows.K b m ≤ PyProof.Rows.K a (a.size - 1) := by
  refine ⟨fun m hm => ?_, fun m hm => ?_⟩
  · obtain ⟨p, hp, e⟩ := K_mem hm
    rw [e, K_at ey]
    exact h0 p hp
  · obtain ⟨p, hp, e⟩ := K_mem hm
    rw [e, K_at ew]
    exact hl p hp
section
variable {st : SortSt} {a b : Array Keyed} {Qa : Array Keyed → SortSt → Prop} {y w : Keyed}
theorem wpS_mlo2 (hk : kindOf st = oneType') (ka : IntKeys a) (kb : IntKeys b) (sa : (nums a.toList).Pairwise (· ≤ ·)) (sb : (nums b.toList).Pairwise (· ≤ ·)) (na : 1 ≤ a.size) (nb : 1 ≤ b.size) (ey : b[0]? = some y) (ew : a[a.size - 1]? = some w)
    (h0 : ∀ x ∈ a.toList, numOf y.1 ≤ numOf x.1) (hl : ∀ x ∈ b.toList, numOf x.1 ≤ numOf w.1)
    (h : ∀ (r : Array Keyed) g, Mgd (a.toList ++ b.toList) r.toList → Qa r (setGal st g)) : wpS (model pg wo) Ar Ex sh (mlo' a b) Qa st :=
  wpS_mlo hk ka kb (sortedTo_of sa) (sortedTo_of sb) na nb (two_pre ey ew h0 hl).1 (two_pre ey ew h0 hl).2 ⟨.nil, sa, sb, by simp, by simp, by simp⟩ h
theorem wpS_mhi2 (hk : kindOf st = oneType') (ka : IntKeys a) (kb : IntKeys b) (sa : (nums a.toList).Pairwise (· ≤ ·)) (sb : (nums b.toList).Pairwise (· ≤ ·)) (na : 1 ≤ a.size) (nb : 1 ≤ b.size) (ey : b[0]? = some y) (ew : a[a.size - 1]? = some w)
    (h0 : ∀ x ∈ a.toList, numOf y.1 ≤ numOf x.1) (hl : ∀ x ∈ b.toList, numOf x.1 ≤ numOf w.1)
    (h : ∀ (r : Array Keyed) g, Mgd (a.toList ++ b.toList) r.toList → Qa r (setGal st g)) : wpS (model pg wo) Ar Ex sh (mhi' a b) Qa st := by
  refine wpS_mhi hk ka kb (sortedTo_of sa) (sortedTo_of sb) na nb (two_pre ey ew h0 hl).1 (two_pre ey ew h0 hl).2 ⟨.nil, ?_, ?_, by simp, by simp, ?_⟩ h
  · rw [← Array.length_toList, List.take_length]
    exact sa
  · rw [← Array.length_toList, List.take_length]
    exact sb
  · rw [← Array.length_toList, ← Array.length_toList, List.take_length, List.take_length]
    simp
end
theorem seg_ext {arr : Array Keyed} {P A S : List Keyed} (e : arr.toList = P ++ A ++ S) {k j : Nat} (hk : k ≤ j) (hj : j ≤ A.length) : (arr.extract (P.length + k) (P.length + j)).toList = (A.drop k).take (j - k) := by
  rw [ext_list, e, List.append_assoc, List.drop_append, List.drop_of_length_le (by omega), List.nil_append, Nat.add_sub_cancel_left, List.drop_append, List.take_append_of_le_length (by rw [List.length_drop]; omega)]
  congr 1
  omega
theorem wpS_mergeAt {st : SortSt} {i pw pw2 : Nat} {P A B S : List Keyed} {Qa : Bool → SortSt → Prop} (hk : kindOf st = oneType') (hf : failedOf st = none) (ik : IntKeys (arrOf st)) (e : (arrOf st).toList = P ++ A ++ B ++ S) (nA : 1 ≤ A.length) (nB : 1 ≤ B.length) (sA : (nums A).Pairwise (· ≤ ·)) (sB : (nums B).Pairwise (· ≤ ·))
    (e1 : (pendingOf st)[i]? = some (P.length, A.length, pw)) (e2 : (pendingOf st)[i + 1]? = some (P.length + A.length, B.length, pw2))
    (h : ∀ z M, (arrOf z).toList = P ++ M ++ S → Mgd (A ++ B) M → kindOf z = oneType' → failedOf z = none → pendingOf z = ((pendingOf st).setIfInBounds i (P.length, A.length + B.length, pw)).eraseIdxIfInBounds (i + 1) → Qa true z) : wpS (model pg wo) Ar Ex sh (mergeAt' i) Qa st := by
  have eB : (arrOf st).toList = (P ++ A) ++ B ++ S := e
  have eA : (arrOf st).toList = P ++ A ++ (B ++ S) := by rw [e]; simp
  have lB : (P ++ A).length = P.length + A.length := List.length_append
  have len : (arrOf st).size = P.length + A.length + B.length + S.length := by
    rw [← Array.length_toList, e]
    simp [Nat.add_assoc]
  have kA : ∀ {m} (hm : m < A.length), PyProof.Rows.K (arrOf st) (P.length + m) = numOf A[m].1 := fun {m} hm => K_at (K_seg eA hm)
  have kB : ∀ {m} (hm : m < B.length), PyProof.Rows.K (arrOf st) (P.length + A.length + m) = numOf B[m].1 := fun {m} hm => by
    have := K_at (K_seg eB hm)
    rwa [lB] at this
  have y0 : (arrOf st)[P.length + A.length]? = some B[0] := by
    have := K_seg eB (i := 0) nB
    rwa [lB] at this
  obtain ⟨ty, hty⟩ := intAt ik y0
  refine wpS_bind (wpS_get ?_)
  rw [e1, e2]
  dsimp only
  refine wpS_bind (wpS_set (wpS_bind (wpS_elem y0 (wpS_bind (wpS_gallop (left := false) (arr := arrOf st) hk ik hty (by omega) (by omega) ?_ fun k n1 n2 n3 => ?_)))))
  · intro p q h1 h2
    unfold pB
    rw [kA h2, kA (by omega : p < A.length)]
    have := nums_le sA h1 h2
    simp only [Bool.false_eq_true, if_false, Bool.not_eq_true', decide_eq_false_iff_not]
    omega
  have n2' : ∀ m (hm : m < k), numOf (A[m]'(by omega)).1 ≤ numOf B[0].1 := fun m hm => by
    have := n2 m hm
    unfold pB at this
    rw [kA (by omega : m < A.length)] at this
    simp only [Bool.false_eq_true, if_false, Bool.not_eq_true', decide_eq_false_iff_not] at this
    omega
  have n3' : ∀ m (hm : m < A.length), k ≤ m → numOf B[0].1 ≤ numOf A[m].1 := fun m hm h1 => by
    have := n3 m h1 hm
    unfold pB at this
    rw [kA hm] at this
    simp only [Bool.false_eq_true, if_false, Bool.not_eq_false', decide_eq_true_eq] at this
    omega
  dsimp only
  refine wpS_ite (fun z => ?_) fun z => ?_
  · have hkk : A.length - k = 0 := by simpa using z
    refine wpS_pure (h _ (A ++ B) (by rw [e]; simp) ⟨List.Perm.refl _, pair_app.mpr ⟨sA, sB, fun x hx y hy => ?_⟩⟩ hk hf rfl)
    obtain ⟨m, hm, rfl⟩ := List.getElem_of_mem hx
    obtain ⟨m', hm', rfl⟩ := List.getElem_of_mem hy
    have f1 := n2' m (by omega)
    have f2 := nums_le sB (Nat.zero_le m') hm'
    omega
  have z' : ¬ _ = _ := fun e => z (beq_iff_eq.mpr e)
  have yl : (arrOf st)[P.length + k + (A.length - k) - 1]? = some (A[A.length - 1]'(by omega)) := by
    have : P.length + k + (A.length - k) - 1 = P.length + (A.length - 1) := by omega
    rw [this]
    exact K_seg eA (by omega)
  obtain ⟨tl, htl⟩ := intAt ik yl
  refine wpS_bind (wpS_elem yl (wpS_bind (wpS_gallop (left := true) (arr := arrOf st) hk ik htl (by omega) (by omega) ?_ fun k' p1 p2 p3 => ?_)))
  · intro p q h1 h2
    unfold pB
    rw [kB h2, kB (by omega : p < B.length)]
    have := nums_le sB h1 h2
    simp only [if_true, decide_eq_true_eq]
    omega
  have p2' : ∀ m (hm : m < k'), numOf (B[m]'(by omega)).1 ≤ numOf (A[A.length - 1]'(by omega)).1 := fun m hm => by
    have := p2 m hm
    unfold pB at this
    rw [kB (by omega : m < B.length)] at this
    simp only [if_true, decide_eq_true_eq] at this
    omega
  have p3' : ∀ m (hm : m < B.length), k' ≤ m → numOf (A[A.length - 1]'(by omega)).1 ≤ numOf B[m].1 := fun m hm h1 => by
    have := p3 m h1 hm
    unfold pB at this
    rw [kB hm] at this
    simp only [if_true, decide_eq_false_iff_not] at this
    omega
  dsimp only
  refine wpS_ite (fun z => ?_) fun z2 => ?_
  · have hkk : k' = 0 := by simpa using z
    refine wpS_pure (h _ (A ++ B) (by rw [e]; simp) ⟨List.Perm.refl _, pair_app.mpr ⟨sA, sB, fun x hx y hy => ?_⟩⟩ hk hf rfl)
    obtain ⟨m, hm, rfl⟩ := List.getElem_of_mem hx
    obtain ⟨m', hm', rfl⟩ := List.getElem_of_mem hy
    have f1 := p3' m' hm' (by omega)
    have f2 := nums_le sA (by omega : m ≤ A.length - 1) (by omega)
    omega
  have z2' : ¬ _ = _ := fun e => z2 (beq_iff_eq.mpr e)
  obtain ⟨a, ha⟩ : ∃ a, (arrOf st).extract (P.length + k) (P.length + A.length) = a := ⟨_, rfl⟩
  obtain ⟨b, hb⟩ : ∃ b, (arrOf st).extract (P.length + A.length) (P.length + A.length + k') = b := ⟨_, rfl⟩
  have la : a.toList = A.drop k := by
    rw [← ha, seg_ext eA n1 (Nat.le_refl _), List.take_of_length_le (by rw [List.length_drop]; omega)]
  have lb : b.toList = B.take k' := by
    have := seg_ext eB (Nat.zero_le k') p1
    rw [lB, Nat.add_zero, hb] at this
    simpa using this
  have ka : IntKeys a := fun p hp => ik p (by rw [eA]; rw [la] at hp; simp [List.mem_of_mem_drop hp])
  have kb : IntKeys b := fun p hp => ik p (by rw [eB]; rw [lb] at hp; simp [List.mem_of_mem_take hp])
  have za : a.size = A.length - k := by rw [← Array.length_toList, la, List.length_drop]
  have zb : b.size = k' := by rw [← Array.length_toList, lb, List.length_take]; omega
  have sda : (nums a.toList).Pairwise (· ≤ ·) := by
    rw [la]
    exact sA.sublist ((List.drop_sublist k A).map _)
  have sdb : (nums b.toList).Pairwise (· ≤ ·) := by
    rw [lb]
    exact sB.sublist ((List.take_sublist k' B).map _)
  have ey : b[0]? = some B[0] := by
    rw [← Array.getElem?_toList, lb, List.getElem?_take_of_lt (by omega), List.getElem?_eq_getElem (by omega)]
  have ew : a[a.size - 1]? = some (A[A.length - 1]'(by omega)) := by
    rw [← Array.getElem?_toList, la, List.getElem?_drop, za, List.getElem?_eq_getElem (by omega)]
    congr 2
    omega
  have fA : ∀ x ∈ A.take k, ∀ y ∈ B, numOf x.1 ≤ numOf y.1 := fun x hx y hy => by
    obtain ⟨m, hm, rfl⟩ := List.getElem_of_mem hx
    obtain ⟨m', hm', rfl⟩ := List.getElem_of_mem hy
    rw [List.length_take] at hm
    rw [List.getElem_take]
    have f1 := n2' m (by omega)
    have f2 := nums_le sB (Nat.zero_le m') hm'
    omega
  have fD : ∀ x ∈ A.drop k, numOf B[0].1 ≤ numOf x.1 := fun x hx => by
    obtain ⟨m, hm, rfl⟩ := List.getElem_of_mem hx
    rw [List.length_drop] at hm
    rw [List.getElem_drop]
    exact n3' _ (by omega) (by omega)
  have fL : ∀ x ∈ A, numOf x.1 ≤ numOf (A[A.length - 1]'(by omega)).1 := fun x hx => by
    obtain ⟨m, hm, rfl⟩ := List.getElem_of_mem hx
    exact nums_le sA (by omega) (by omega)
  have fT : ∀ y ∈ B.take k', numOf y.1 ≤ numOf (A[A.length - 1]'(by omega)).1 := fun y hy => by
    obtain ⟨m, hm, rfl⟩ := List.getElem_of_mem hy
    rw [List.length_take] at hm
    rw [List.getElem_take]
    exact p2' m (by omega)
  have fE : ∀ y ∈ B.drop k', numOf (A[A.length - 1]'(by omega)).1 ≤ numOf y.1 := fun y hy => by
    obtain ⟨m, hm, rfl⟩ := List.getElem_of_mem hy
    rw [List.length_drop] at hm
    rw [List.getElem_drop]
    exact p3' _ (by omega) (by omega)
  have done : ∀ r : Array Keyed, Mgd (a.toList ++ b.toList) r.toList → Mgd (A ++ B) (A.take k ++ r.toList ++ B.drop k') := fun r hr => by
    obtain ⟨h1, h2⟩ := hr
    rw [la, lb] at h1
    have tA := sA
    rw [← List.take_append_drop k A] at tA
    obtain ⟨t1, t2, t3⟩ := pair_app.mp tA
    have tB := sB
    rw [← List.take_append_drop k' B] at tB
    obtain ⟨u1, u2, u3⟩ := pair_app.mp tB
    constructor
    · refine ((h1.append_left (A.take k)).append_right (B.drop k')).trans ?_
      rw [← List.append_assoc, List.take_append_drop, List.append_assoc, List.take_append_drop]
    · refine pair_app.mpr ⟨pair_app.mpr ⟨t1, h2, fun x hx y hy => ?_⟩, u2, fun x hx y hy => ?_⟩
      · rcases List.mem_append.mp (h1.mem_iff.mp hy) with z | z
        · exact t3 x hx y z
        · exact fA x hx y (List.mem_of_mem_take z)
      · rcases List.mem_append.mp hx with z | z
        · exact fA x z y (List.mem_of_mem_drop hy)
        · rcases List.mem_append.mp (h1.mem_iff.mp z) with z | z
          · exact Int.le_trans (fL x (List.mem_of_mem_drop z)) (fE y hy)
          · exact u3 x z y hy
  have back : ∀ r : Array Keyed, Mgd (a.toList ++ b.toList) r.toList → (r.toList.zipIdx.foldl (fun a (pj : Keyed × Nat) => a.setIfInBounds (P.length + k + pj.2) pj.1) (arrOf st)).toList = P ++ (A.take k ++ r.toList ++ B.drop k') ++ S := fun r hr => by
    rw [wrote r.toList 0 (P.length + k) (arrOf st) (P ++ A.take k) (A.drop k ++ B.take k') (B.drop k' ++ S)]
    · simp
    · rw [e]
      have q : A.take k ++ (A.drop k ++ (B.take k' ++ (B.drop k' ++ S))) = A ++ (B ++ S) := by
        rw [← List.append_assoc, List.take_append_drop, ← List.append_assoc (B.take k'), List.take_append_drop]
      simp only [List.append_assoc]
      rw [q]
    · rw [List.length_append, List.length_take]
      omega
    · rw [hr.1.length_eq, la, lb]
  refine wpS_ite (fun _ => wpS_bind ?_) fun _ => wpS_bind ?_
  all_goals
    rw [show (sortPriv% PySem.Builtin.SortState.a) st = arrOf st from rfl, ha, hb]
    first
      | refine wpS_mlo2 hk ka kb sda sdb (by omega) (by omega) ey ew ?_ ?_ fun r g hr => ?_
      | refine wpS_mhi2 hk ka kb sda sdb (by omega) (by omega) ey ew ?_ ?_ fun r g hr => ?_
    · intro x hx
      exact fD x (la ▸ hx)
    · intro x hx
      exact fT x (lb ▸ hx)
    refine wpS_bind (wpS_modify (wpS_bind (wpS_get ?_)))
    have q := h (SortSt.mk' (kindOf st) (r.toList.zipIdx.foldl (fun a (pj : Keyed × Nat) => a.setIfInBounds (P.length + k + pj.2) pj.1) (arrOf st)) (((pendingOf st).setIfInBounds i (P.length, A.length + B.length, pw)).eraseIdxIfInBounds (i + 1)) g (failedOf st)) _ (back r hr) (done r hr) hk hf rfl
    have hn : (failedOf st).isNone = true := by rw [hf]; rfl
    rw [← hn] at q
    exact wpS_pure q
end
end L2
namespace L2
open PySem PyProof.Rows
/-! THE LONG SORT, 6: a run found and a run filled up, from lo on -/
structure Fr (lo : Nat) (a0 : Array Keyed) (p0 : Array (Nat × Nat × Nat)) (z : SortSt) : Prop where
  perm : (arrOf z).Perm a0
  low : ∀ i, i < lo → (arrOf z)[i]? = a0[i]?
  kind : kindOf z = oneType'
  failed : failedOf z = none
  pend : pendingOf z = p0
section
variable {lo : Nat} {a0 : Array Keyed} {p0 : Array (Nat × Nat × Nat)} {z z' : SortSt} {n : Nat}
theorem Fr.size (f : Fr lo a0 p0 z) : (arrOf z).size = a0.size := f.perm.size_eq
theorem Fr.ints (f : Fr lo a0 p0 z) (ik : IntKeys a0) : IntKeys (arrOf z) := fun p hp => ik p ((Array.perm_iff_toList_perm.mp f.perm).mem_iff.mp hp)
theorem Fr.rev (f : Fr lo a0 p0 z) {i j : Nat} (hi : lo ≤ i) (hj : j ≤ a0.size) : Fr lo a0 p0 (setArr z (mirror (arrOf z) i j ((j - i) / 2))) := by
  refine ⟨(mirror_perm _ _ _ _).trans f.perm, fun q hq => ?_, f.kind, f.failed, f.pend⟩
  show (mirror (arrOf z) i j ((j - i) / 2))[q]? = _
  rw [getElem?_mirror_all (by rw [f.size]; exact hj), if_neg (by omega)]
  exact f.low q hq
theorem Fr.bub (f : Fr lo a0 p0 z) {src d : Nat} (hs : src < a0.size) (hd : lo + d ≤ src) : Fr lo a0 p0 (setArr z (bubble (arrOf z) src d)) := by
  refine ⟨(bubble_perm _ _ _).trans f.perm, fun q hq => ?_, f.kind, f.failed, f.pend⟩
  show (bubble (arrOf z) src d)[q]? = _
  rw [getElem?_bubble (by rw [f.size]; exact hs) d (by omega), if_neg (by omega), if_neg (by omega)]
  exact f.low q hq
def Up (lo : Nat) (z : SortSt) (n : Nat) : Prop := ∀ i j, i ≤ j → j < n → PyProof.Rows.K (arrOf z) (lo + i) ≤ PyProof.Rows.K (arrOf z) (lo + j)
def Dn (lo : Nat) (z : SortSt) (n : Nat) : Prop := ∀ i j, i ≤ j → j < n → PyProof.Rows.K (arrOf z) (lo + j) ≤ PyProof.Rows.K (arrOf z) (lo + i)
theorem Up.one : Up lo z 1 := fun i j h1 h2 => by
  have e : i = j := by omega
  subst e
  exact Int.le_refl _
theorem Up.succ (u : Up lo z n) (hn : 1 ≤ n) (h : PyProof.Rows.K (arrOf z) (lo + n - 1) ≤ PyProof.Rows.K (arrOf z) (lo + n)) : Up lo z (n + 1) := fun i j h1 h2 => by
  rcases Nat.lt_or_ge j n with y | y
  · exact u i j h1 y
  · have e : j = n := by omega
    subst e
    rcases Nat.lt_or_ge i j with x | x
    · have e2 : lo + j - 1 = lo + (j - 1) := by omega
      rw [e2] at h
      exact Int.le_trans (u i (j - 1) (by omega) (by omega)) h
    · have e : i = j := by omega
      subst e
      exact Int.le_refl _
theorem Dn.one : Dn lo z 1 := fun i j h1 h2 => by
  have e : i = j := by omega
  subst e
  exact Int.le_refl _
theorem Dn.succ (u : Dn lo z n) (hn : 1 ≤ n) (h : PyProof.Rows.K (arrOf z) (lo + n) ≤ PyProof.Rows.K (arrOf z) (lo + n - 1)) : Dn lo z (n + 1) := fun i j h1 h2 => by
  rcases Nat.lt_or_ge j n with y | y
  · exact u i j h1 y
  · have e : j = n := by omega
    subst e
    rcases Nat.lt_or_ge i j with x | x
    · have e2 : lo + j - 1 = lo + (j - 1) := by omega
      rw [e2] at h
      exact Int.le_trans h (u i (j - 1) (by omega) (by omega))
    · have e : i = j := by omega
      subst e
      exact Int.le_refl _
theorem Dn.cong (u : Dn lo z n) (h : ∀ q, PyProof.Rows.K (arrOf z') q = PyProof.Rows.K (arrOf z) q) : Dn lo z' n := fun i j h1 h2 => by
  rw [h, h]
  exact u i j h1 h2
theorem Dn.turn (u : Dn lo z n) (hn : lo + n ≤ (arrOf z).size) : Up lo (setArr z (mirror (arrOf z) lo (lo + n) ((lo + n - lo) / 2))) n := fun i j h1 h2 => by
  show PyProof.Rows.K (mirror (arrOf z) lo (lo + n) _) _ ≤ PyProof.Rows.K (mirror (arrOf z) lo (lo + n) _) _
  rw [K_mirror hn, K_mirror hn, if_pos (by omega), if_pos (by omega)]
  have := u (n - 1 - j) (n - 1 - i) (by omega) (by omega)
  have e1 : lo + (lo + n) - 1 - (lo + i) = lo + (n - 1 - i) := by omega
  have e2 : lo + (lo + n) - 1 - (lo + j) = lo + (n - 1 - j) := by omega
  rw [e1, e2]
  exact this
end
section
variable {pg : Program} {wo : World} {Ar : Around} {Ex : Value → Shared → Prop} {sh : Shared} {lo : Nat} {a0 : Array Keyed} {p0 : Array (Nat × Nat × Nat)} {st : SortSt}
theorem wpS_ltF {i j : Nat} {Qa : Option Bool → SortSt → Prop} (f : Fr lo a0 p0 st) (ik : IntKeys a0) (hi : i < a0.size) (hj : j < a0.size) (h : Qa (some (decide (PyProof.Rows.K (arrOf st) i < PyProof.Rows.K (arrOf st) j))) st) : wpS (model pg wo) Ar Ex sh (ltAt' i j) Qa st := by
  obtain ⟨p, t, e1, e2⟩ := key_at (f.ints ik) (i := i) (by rw [f.size]; exact hi)
  obtain ⟨q, u, e3, e4⟩ := key_at (f.ints ik) (i := j) (by rw [f.size]; exact hj)
  obtain ⟨p1, p2⟩ := p
  obtain ⟨q1, q2⟩ := q
  dsimp only at e2 e4
  rw [e2] at e1
  rw [e4] at e3
  exact wpS_ltAt f.kind e1 e3 h
theorem wpS_rev {i j : Nat} {Qa : Unit → SortSt → Prop} (h : Qa () (setArr st (mirror (arrOf st) i j ((j - i) / 2)))) : wpS (model pg wo) Ar Ex sh (reverseSlice' i j) Qa st := wpS_modify h
theorem wpS_count {nrem : Nat} {Qa : Option Nat → SortSt → Prop} (ik : IntKeys a0) (f : Fr lo a0 p0 st) (hn : lo + nrem ≤ a0.size) (h1 : 1 ≤ nrem) (h : ∀ m z, Fr lo a0 p0 z → 1 ≤ m → m ≤ nrem → Up lo z m → Qa (some m) z) : wpS (model pg wo) Ar Ex sh (countRun' lo nrem) Qa st := by
  rw [countRun'_eq]
  dsimp only
  refine wpS_bind (wpS_mono (wpS_forRange (I := fun x c z => z = st ∧ c = (none, x) ∧ Up lo z x) (Q := fun c z => z = st ∧ ∃ n, c = (none, n) ∧ Up lo z n ∧ 1 ≤ n ∧ n ≤ nrem ∧ (n = nrem ∨ PyProof.Rows.K (arrOf z) (lo + n) < PyProof.Rows.K (arrOf z) (lo + n - 1))) ?_ ?_ ⟨rfl, rfl, Up.one⟩) ?_)
  · rintro x c z x1 x2 ⟨rfl, rfl, u⟩
    refine wpS_bind (wpS_ltF f ik (by dsimp only; omega) (by dsimp only; omega) ?_)
    refine wpS_ite (fun y => ?_) fun y => ?_
    · exact wpS_pure ⟨rfl, _, rfl, u, x1, by dsimp only; omega, .inr (by simpa using y)⟩
    · exact wpS_pure ⟨rfl, rfl, u.succ x1 (by simpa using y)⟩
  · rintro c z ⟨rfl, rfl, u⟩
    rw [Nat.max_eq_right h1] at u ⊢
    exact ⟨rfl, _, rfl, u, h1, Nat.le_refl _, .inl rfl⟩
  rintro c z ⟨rfl, n, rfl, u, n1, n2, n3⟩
  dsimp only
  refine wpS_ite (fun y => wpS_pure (h n z f n1 n2 u)) fun y => ?_
  have y' : ¬ n = nrem := fun e => y (beq_iff_eq.mpr e)
  have n3 := n3.resolve_left y'
  have szz := f.size
  refine wpS_ite (fun y2 => wpS_bind (wpS_ltF f ik (by omega) (by omega) (wpS_ite (fun y3 => wpS_pure (h n z f n1 n2 u)) fun y3 => wpS_bind (wpS_rev ?_)))) fun y2 => ?_
  have y3' : ¬ PyProof.Rows.K (arrOf z) lo < PyProof.Rows.K (arrOf z) (lo + n - 1) := by simpa using y3
  have hall : ∀ q, lo ≤ q → q < lo + n → PyProof.Rows.K (arrOf z) q = PyProof.Rows.K (arrOf z) (lo + n - 1) := fun q q1 q2 => by
    have a1 := u 0 (q - lo) (by omega) (by omega)
    have a2 := u (q - lo) (n - 1) (by omega) (by omega)
    have e1 : lo + (q - lo) = q := by omega
    have e2 : lo + (n - 1) = lo + n - 1 := by omega
    rw [e1] at a1 a2
    rw [e2] at a2
    rw [Nat.add_zero] at a1
    omega
  have f2 := f.rev (i := lo) (j := lo + n) (Nat.le_refl _) (by omega)
  have d2 : Dn lo (setArr z (mirror (arrOf z) lo (lo + n) ((lo + n - lo) / 2))) (n + 1) := by
    have d1 : Dn lo z n := fun i j i1 i2 => by
      rw [hall (lo + i) (by omega) (by omega), hall (lo + j) (by omega) (by omega)]
      exact Int.le_refl _
    exact Dn.cong (d1.succ n1 (Int.le_of_lt n3)) fun q => K_mirror_equal (by omega) hall q
  rotate_left
  have f2 := f
  have e1 : n = 1 := by omega
  subst e1
  have d2 : Dn lo z (1 + 1) := Dn.one.succ n1 (Int.le_of_lt n3)
  rotate_left
  all_goals
    refine wpS_bind (wpS_lift (wpAny_rule ⟨rfl, ?_⟩))
    refine wpS_bind (wpS_mono (wpS_forRange (I := fun x c w => ∃ k, c = (none, x, k) ∧ Fr lo a0 p0 w ∧ Dn lo w x ∧ k + 1 ≤ x ∧ ∀ q, lo + x - (k + 1) ≤ q → q < lo + x → PyProof.Rows.K (arrOf w) q = PyProof.Rows.K (arrOf w) (lo + x - 1))
      (Q := fun c w => ∃ x k, c = (none, x, k) ∧ Fr lo a0 p0 w ∧ Dn lo w x ∧ k + 1 ≤ x ∧ x ≤ nrem ∧ ∀ q, lo + x - (k + 1) ≤ q → q < lo + x → PyProof.Rows.K (arrOf w) q = PyProof.Rows.K (arrOf w) (lo + x - 1)) ?_ ?_ ⟨0, rfl, f2, d2, by omega, fun q q1 q2 => by congr 1; omega⟩) ?_)
    · rintro x c w x1 x2 ⟨k, rfl, fw, dw, kx, kq⟩
      have szw := fw.size
      refine wpS_bind (wpS_ltF fw ik (by dsimp only; omega) (by dsimp only; omega) ?_)
      refine wpS_ite (fun y => ?_) fun y => ?_
      · have y4 : PyProof.Rows.K (arrOf w) (lo + x) < PyProof.Rows.K (arrOf w) (lo + x - 1) := by simpa using y
        have dw2 := dw.succ (by omega) (Int.le_of_lt y4)
        refine wpS_ite (fun y5 => wpS_bind (wpS_rev (wpS_pure ⟨0, rfl, fw.rev (by dsimp only; omega) (by dsimp only; omega), dw2.cong fun q => K_mirror_equal (by show lo + x ≤ _; omega) kq q, by omega, fun q q1 q2 => by congr 1; omega⟩))) fun y5 => wpS_pure ⟨0, rfl, fw, dw2, by omega, fun q q1 q2 => by congr 1; omega⟩
      · have y4 : PyProof.Rows.K (arrOf w) (lo + x - 1) ≤ PyProof.Rows.K (arrOf w) (lo + x) := by simpa using y
        refine wpS_bind (wpS_ltF fw ik (by dsimp only; omega) (by dsimp only; omega) ?_)
        refine wpS_ite (fun y5 => wpS_pure ⟨_, _, rfl, fw, dw, kx, by show x ≤ nrem; omega, kq⟩) fun y5 => ?_
        have y6 : PyProof.Rows.K (arrOf w) (lo + x) ≤ PyProof.Rows.K (arrOf w) (lo + x - 1) := by simpa using y5
        refine wpS_pure ⟨k + 1, rfl, fw, dw.succ (by omega) y6, by omega, fun q q1 q2 => ?_⟩
        have e2 : lo + (x + 1) - 1 = lo + x := by omega
        rw [e2]
        rcases Nat.lt_or_ge q (lo + x) with t | t
        · have := kq q (by omega) t
          omega
        · have e3 : q = lo + x := by omega
          rw [e3]
    · rintro c w ⟨k, rfl, fw, dw, kx, kq⟩
      rw [Nat.max_eq_right (by omega)] at dw kx kq ⊢
      exact ⟨_, k, rfl, fw, dw, kx, Nat.le_refl _, kq⟩
    rintro c w ⟨x, k, rfl, fw, dw, kx, xn, kq⟩
    dsimp only
    have szw := fw.size
    refine wpS_ite (fun y5 => wpS_bind (wpS_rev ?_)) fun y5 => ?_
    have fw2 := fw.rev (i := lo + x - (k + 1)) (j := lo + x) (by omega) (by omega)
    have dw2 := Dn.cong (z' := setArr w (mirror (arrOf w) (lo + x - (k + 1)) (lo + x) ((lo + x - (lo + x - (k + 1))) / 2))) dw fun q => K_mirror_equal (by omega) kq q
    rotate_left
    have fw2 := fw
    have dw2 := dw
    rotate_left
    all_goals
      refine wpS_bind (wpS_rev ?_)
      have fw3 := fw2.rev (i := lo) (j := lo + x) (Nat.le_refl _) (by omega)
      have uw3 := dw2.turn (by have := fw2.size; omega)
      refine wpS_bind (wpS_mono (wpS_forRange (I := fun x c z => c = (none, x) ∧ Fr lo a0 p0 z ∧ Up lo z x) (Q := fun c z => ∃ n, c = (none, n) ∧ Fr lo a0 p0 z ∧ Up lo z n ∧ 1 ≤ n ∧ n ≤ nrem) ?_ ?_ ⟨rfl, fw3, uw3⟩) ?_)
      · rintro x' c z x1 x2 ⟨rfl, f, u⟩
        refine wpS_bind (wpS_ltF f ik (by dsimp only; omega) (by dsimp only; omega) ?_)
        refine wpS_ite (fun y => ?_) fun y => ?_
        · exact wpS_pure ⟨_, rfl, f, u, by omega, by dsimp only; omega⟩
        · exact wpS_pure ⟨rfl, f, u.succ (by omega) (by simpa using y)⟩
      · rintro c z ⟨rfl, f, u⟩
        rw [Nat.max_eq_right xn] at u ⊢
        exact ⟨_, rfl, f, u, h1, Nat.le_refl _⟩
      rintro c z ⟨m, rfl, fz, uz, m1, m2⟩
      exact wpS_pure (h m z fz m1 m2 uz)
theorem wpS_bin {n ok : Nat} {Qa : Bool → SortSt → Prop} (ik : IntKeys a0) (f : Fr lo a0 p0 st) (hn : lo + n ≤ a0.size) (h1 : 1 ≤ ok) (hok : ok ≤ n) (u : Up lo st ok) (h : ∀ z, Fr lo a0 p0 z → Up lo z n → Qa true z) : wpS (model pg wo) Ar Ex sh (binarySort' lo n ok) Qa st := by
  rw [binarySort'_eq]
  dsimp only
  rw [Nat.max_eq_left h1]
  refine wpS_bind (wpS_mono (wpS_forRange (I := fun k c z => c = (none, ()) ∧ Fr lo a0 p0 z ∧ Up lo z k) (Q := fun c z => c = (none, ()) ∧ Fr lo a0 p0 z ∧ Up lo z n) ?_ ?_ ⟨rfl, f, u⟩) ?_)
  · rintro k c z k1 k2 ⟨rfl, fz, uz⟩
    have szz := fz.size
    refine wpS_bind (wpS_mono (wpS_forRange (I := fun x c w => w = z ∧ ∃ l r, c = (none, l, r) ∧ l ≤ r ∧ r ≤ k ∧ r - l ≤ k - x ∧ (∀ q, q < l → PyProof.Rows.K (arrOf z) (lo + q) ≤ PyProof.Rows.K (arrOf z) (lo + k)) ∧ ∀ q, r ≤ q → q < k → PyProof.Rows.K (arrOf z) (lo + k) ≤ PyProof.Rows.K (arrOf z) (lo + q))
      (Q := fun c w => w = z ∧ ∃ l r, c = (none, l, r) ∧ l ≤ k ∧ (∀ q, q < l → PyProof.Rows.K (arrOf z) (lo + q) ≤ PyProof.Rows.K (arrOf z) (lo + k)) ∧ ∀ q, l ≤ q → q < k → PyProof.Rows.K (arrOf z) (lo + k) ≤ PyProof.Rows.K (arrOf z) (lo + q)) ?_ ?_ ⟨rfl, 0, k, rfl, Nat.zero_le _, Nat.le_refl _, by omega, fun q hq => absurd hq (Nat.not_lt_zero _), fun q q1 q2 => by omega⟩) ?_)
    · rintro x c w _ x2 ⟨rfl, l, r, rfl, b1, b2, b3, b4, b5⟩
      dsimp only
      refine wpS_ite (fun y => ?_) fun y => ?_
      · exact wpS_pure ⟨rfl, l, r, rfl, by omega, b4, fun q q1 q2 => b5 q (by omega) q2⟩
      refine wpS_bind (wpS_ltF fz ik (by omega) (by omega) ?_)
      refine wpS_ite (fun y2 => ?_) fun y2 => ?_
      · have y3 : PyProof.Rows.K (arrOf w) (lo + k) < PyProof.Rows.K (arrOf w) (lo + (l + r) / 2) := by simpa using y2
        exact wpS_pure ⟨rfl, l, (l + r) / 2, rfl, by omega, by omega, by omega, b4, fun q q1 q2 => Int.le_trans (Int.le_of_lt y3) (uz _ _ q1 q2)⟩
      · have y3 : PyProof.Rows.K (arrOf w) (lo + (l + r) / 2) ≤ PyProof.Rows.K (arrOf w) (lo + k) := by simpa using y2
        exact wpS_pure ⟨rfl, (l + r) / 2 + 1, r, rfl, by omega, by omega, by omega, fun q q1 => Int.le_trans (uz q _ (by omega) (by omega)) y3, b5⟩
    · rintro c w ⟨rfl, l, r, rfl, b1, b2, b3, b4, b5⟩
      exact ⟨rfl, l, r, rfl, by omega, b4, fun q q1 q2 => b5 q (by omega) q2⟩
    rintro c w ⟨rfl, l, r, rfl, b1, b4, b5⟩
    refine wpS_bind (wpS_modify (wpS_pure ⟨rfl, fz.bub (src := lo + k) (d := lo + k - (lo + l)) (by omega) (by omega), ?_⟩))
    intro i j i1 i2
    show PyProof.Rows.K (bubble (arrOf w) (lo + k) (lo + k - (lo + l))) _ ≤ PyProof.Rows.K (bubble (arrOf w) (lo + k) (lo + k - (lo + l))) _
    rw [K_bubble (by omega) (by omega), K_bubble (by omega) (by omega)]
    rcases Nat.lt_trichotomy i l with c1 | c1 | c1
    · rw [if_neg (by omega), if_neg (by omega)]
      rcases Nat.lt_trichotomy j l with c2 | c2 | c2
      · rw [if_neg (by omega), if_neg (by omega)]
        exact uz i j i1 (by omega)
      · rw [if_pos (by omega)]
        exact b4 i c1
      · rw [if_neg (by omega), if_pos (by omega)]
        have e1 : lo + j - 1 = lo + (j - 1) := by omega
        rw [e1]
        exact uz i (j - 1) (by omega) (by omega)
    · rw [if_pos (by omega)]
      rcases Nat.lt_trichotomy j l with c2 | c2 | c2
      · omega
      · rw [if_pos (by omega)]
        exact Int.le_refl _
      · rw [if_neg (by omega), if_pos (by omega)]
        have e1 : lo + j - 1 = lo + (j - 1) := by omega
        rw [e1]
        exact b5 (j - 1) (by omega) (by omega)
    · rw [if_neg (by omega), if_pos (by omega), if_neg (by omega), if_pos (by omega)]
      have e1 : lo + j - 1 = lo + (j - 1) := by omega
      have e2 : lo + i - 1 = lo + (i - 1) := by omega
      rw [e1, e2]
      exact uz (i - 1) (j - 1) (by omega) (by omega)
  · rintro c z ⟨rfl, fz, uz⟩
    rw [Nat.max_eq_right hok] at uz
    exact ⟨rfl, fz, uz⟩
  rintro c z ⟨rfl, fz, uz⟩
  exact wpS_pure (h z fz uz)
end
end L2
namespace L2
open PySem PyProof.Rows
/-! THE LONG SORT, 7: the runs, and the whole -/
inductive Runs : Nat → List (Nat × Nat × Nat) → List (List Keyed) → Prop
  | nil {o : Nat} : Runs o [] []
  | cons {o w : Nat} {r : List Keyed} {ps : List (Nat × Nat × Nat)} {rs : List (List Keyed)} : 1 ≤ r.length → (nums r).Pairwise (· ≤ ·) → Runs (o + r.length) ps rs → Runs o ((o, r.length, w) :: ps) (r :: rs)
theorem Runs.snoc {w : Nat} {r : List Keyed} (h1 : 1 ≤ r.length) (h2 : (nums r).Pairwise (· ≤ ·)) : ∀ {o : Nat} {ps : List (Nat × Nat × Nat)} {R : List (List Keyed)}, Runs o ps R → Runs o (ps ++ [(o + R.flatten.length, r.length, w)]) (R ++ [r])
  | o, _, _, .nil => by
    simp only [List.flatten_nil, List.length_nil, Nat.add_zero, List.nil_append]
    exact .cons h1 h2 .nil
  | o, _, _, .cons (r := q) (rs := rs) a b c => by
    have := Runs.snoc (w := w) h1 h2 c
    rw [List.cons_append, List.cons_append]
    refine .cons a b ?_
    rw [List.flatten_cons, List.length_append, ← Nat.add_assoc]
    exact this
theorem Runs.pow {w : Nat} : ∀ {o i : Nat} {ps : List (Nat × Nat × Nat)} {R : List (List Keyed)}, Runs o ps R → Runs o (ps.modify i fun x => (x.1, x.2.1, w)) R
  | o, i, _, _, .nil => by
    simp only [List.modify_nil]
    exact .nil
  | o, 0, _, _, .cons a b c => .cons a b c
  | o, i + 1, _, _, .cons a b c => by
    rw [List.modify_succ_cons]
    exact .cons a b c.pow
theorem Runs.len : ∀ {o : Nat} {ps : List (Nat × Nat × Nat)} {R : List (List Keyed)}, Runs o ps R → ps.length = R.length ∧ R.length ≤ R.flatten.length
  | _, _, _, .nil => ⟨rfl, Nat.le_refl _⟩
  | _, _, _, .cons a b c => by
    have := c.len
    rw [List.flatten_cons, List.length_append, List.length_cons, List.length_cons]
    omega
theorem Runs.two : ∀ {i o : Nat} {ps : List (Nat × Nat × Nat)} {R : List (List Keyed)}, Runs o ps R → i + 1 < ps.length → ∃ R1 A B R2 w1 w2, R = R1 ++ A :: B :: R2 ∧ ps[i]? = some (o + R1.flatten.length, A.length, w1) ∧ ps[i + 1]? = some (o + R1.flatten.length + A.length, B.length, w2) ∧ 1 ≤ A.length ∧ 1 ≤ B.length ∧ (nums A).Pairwise (· ≤ ·) ∧ (nums B).Pairwise (· ≤ ·) ∧
    ∀ M : List Keyed, M.length = A.length + B.length → (nums M).Pairwise (· ≤ ·) → Runs o ((ps.set i (o + R1.flatten.length, A.length + B.length, w1)).eraseIdx (i + 1)) (R1 ++ M :: R2)
  | 0, o, _, _, .cons (r := A) (w := w1) a b (.cons (r := B) (w := w2) (rs := rs) c d e), _ => by
    refine ⟨[], A, B, rs, w1, w2, rfl, by simp, by simp, a, c, b, d, fun M hM sM => ?_⟩
    simp only [List.flatten_nil, List.length_nil, Nat.add_zero, List.nil_append, List.set_cons_zero, List.eraseIdx_cons_succ, List.eraseIdx_cons_zero]
    rw [← hM]
    refine .cons (by omega) sM ?_
    rw [hM, ← Nat.add_assoc]
    exact e
  | 0, o, _, _, .cons a b .nil, h => by simp at h
  | i + 1, o, _, _, .cons (r := A0) (w := w0) a b c, h => by
    obtain ⟨R1, A, B, R2, w1, w2, e1, e2, e3, c1, c2, c3, c4, c5⟩ := Runs.two (i := i) c (by simpa using h)
    have q : o + (A0 :: R1).flatten.length = o + A0.length + R1.flatten.length := by
      rw [List.flatten_cons, List.length_append, Nat.add_assoc]
    refine ⟨A0 :: R1, A, B, R2, w1, w2, by rw [e1]; rfl, ?_, ?_, c1, c2, c3, c4, fun M hM sM => ?_⟩
    · rw [q]
      simpa using e2
    · rw [q]
      simpa using e3
    · rw [q, List.set_cons_succ, List.eraseIdx_cons_succ]
      exact .cons a b (c5 M hM sM)
structure Sr (a0 : Array Keyed) (R : List (List Keyed)) (T : List Keyed) (z : SortSt) : Prop where
  arr : (arrOf z).toList = R.flatten ++ T
  perm : (arrOf z).toList.Perm a0.toList
  kind : kindOf z = oneType'
  failed : failedOf z = none
  runs : Runs 0 (pendingOf z).toList R
theorem Sr.ints {a0 : Array Keyed} {R : List (List Keyed)} {T : List Keyed} {z : SortSt} (s : Sr a0 R T z) (ik : IntKeys a0) : IntKeys (arrOf z) := fun p hp => ik p (s.perm.mem_iff.mp hp)
theorem Sr.size {a0 : Array Keyed} {R : List (List Keyed)} {T : List Keyed} {z : SortSt} (s : Sr a0 R T z) : (arrOf z).size = a0.size := by
  rw [← Array.length_toList, ← Array.length_toList]
  exact s.perm.length_eq
/-- what a run found from lo on leaves -/
theorem Sr.found {a0 : Array Keyed} {R : List (List Keyed)} {T : List Keyed} {z z' : SortSt} {n : Nat} (s : Sr a0 R T z) (f : Fr R.flatten.length (arrOf z) (pendingOf z) z') (n1 : n ≤ T.length) (u : Up R.flatten.length z' n) :
    ∃ r T', Sr a0 R (r ++ T') z' ∧ r.length = n ∧ (nums r).Pairwise (· ≤ ·) ∧ n + T'.length = T.length := by
  have hp : (arrOf z').toList.Perm (arrOf z).toList := Array.perm_iff_toList_perm.mp f.perm
  have lz : (arrOf z').toList.length = R.flatten.length + T.length := by rw [hp.length_eq, s.arr, List.length_append]
  have ht : (arrOf z').toList.take R.flatten.length = R.flatten := by
    have e : R.flatten = (arrOf z).toList.take R.flatten.length := by rw [s.arr, List.take_left]
    conv => rhs; rw [e]
    refine List.ext_getElem? fun i => ?_
    rw [List.getElem?_take, List.getElem?_take]
    split
    · next h =>
      rw [Array.getElem?_toList, Array.getElem?_toList]
      exact f.low i h
    · rfl
  obtain ⟨T1, hT⟩ : ∃ T1, (arrOf z').toList = R.flatten ++ T1 := ⟨_, by conv => lhs; rw [← List.take_append_drop R.flatten.length (arrOf z').toList, ht]⟩
  have lT : T1.length = T.length := by
    rw [hT, List.length_append] at lz
    omega
  refine ⟨T1.take n, T1.drop n, ⟨by rw [List.take_append_drop]; exact hT, hp.trans s.perm, f.kind, f.failed, by rw [f.pend]; exact s.runs⟩, by rw [List.length_take]; omega, ?_, by rw [List.length_drop]; omega⟩
  have e : (arrOf z').toList = R.flatten ++ T1.take n ++ T1.drop n := by rw [List.append_assoc, List.take_append_drop]; exact hT
  refine List.pairwise_iff_getElem.mpr fun i j hi hj hij => ?_
  have hi' : i < (T1.take n).length := by simpa using hi
  have hj' : j < (T1.take n).length := by simpa using hj
  have := u i j (by omega) (by rw [List.length_take] at hj'; omega)
  rw [K_at (K_seg e hi'), K_at (K_seg e hj')] at this
  simpa using this
section
variable {pg : Program} {wo : World} {Ar : Around} {Ex : Value → Shared → Prop} {sh : Shared} {a0 : Array Keyed} {st : SortSt}
theorem wpS_mergeR {i : Nat} {R : List (List Keyed)} {T : List Keyed} {Qa : Bool → SortSt → Prop} (ik : IntKeys a0) (s : Sr a0 R T st) (hi : i + 1 < (pendingOf st).size) (h : ∀ z R', Sr a0 R' T z → R'.flatten.length = R.flatten.length → (pendingOf z).size + 1 = (pendingOf st).size → Qa true z) : wpS (model pg wo) Ar Ex sh (mergeAt' i) Qa st := by
  obtain ⟨R1, A, B, R2, w1, w2, e1, e2, e3, c1, c2, c3, c4, c5⟩ := s.runs.two (i := i) (by simpa using hi)
  rw [Nat.zero_add, Array.getElem?_toList] at e2 e3
  refine wpS_mergeAt (P := R1.flatten) (A := A) (B := B) (S := R2.flatten ++ T) s.kind s.failed (s.ints ik) ?_ c1 c2 c3 c4 e2 e3 fun z M d1 d2 d3 d4 d5 => ?_
  · rw [s.arr, e1]
    simp
  have lM : M.length = A.length + B.length := by rw [d2.1.length_eq, List.length_append]
  have rM := c5 M lM d2.2
  rw [Nat.zero_add] at rM
  refine h z (R1 ++ M :: R2) ⟨by rw [d1]; simp, ?_, d3, d4, ?_⟩ ?_ ?_
  · refine List.Perm.trans ?_ s.perm
    rw [d1, s.arr, e1]
    simp only [List.flatten_append, List.flatten_cons, List.append_assoc]
    refine List.Perm.append_left _ ?_
    rw [← List.append_assoc A B]
    exact List.Perm.append_right _ d2.1
  · rw [d5, Array.toList_eraseIdxIfInBounds, Array.toList_setIfInBounds]
    exact rM
  · rw [e1]
    simp only [List.flatten_append, List.flatten_cons, List.length_append]
    omega
  · have h1 := rM.len.1
    have h2 := s.runs.len.1
    rw [e1] at h2
    rw [d5, ← Array.length_toList, Array.toList_eraseIdxIfInBounds, Array.toList_setIfInBounds, h1, ← Array.length_toList, h2]
    simp only [List.length_append, List.length_cons]
    omega
end
end L2
namespace L2
open PySem PyProof.Rows
/-! THE LONG SORT, 8: the whole -/
section
variable {a0 : Array Keyed} {R : List (List Keyed)} {r T : List Keyed} {z : SortSt}
theorem Sr.push (s : Sr a0 R (r ++ T) z) (h1 : 1 ≤ r.length) (h2 : (nums r).Pairwise (· ≤ ·)) : Sr a0 (R ++ [r]) T (setPending z ((pendingOf z).push (R.flatten.length, r.length, 0))) := by
  refine ⟨?_, s.perm, s.kind, s.failed, ?_⟩
  · rw [List.flatten_append]
    simpa using s.arr
  · have := s.runs.snoc (w := 0) h1 h2
    rw [Nat.zero_add] at this
    show Runs 0 ((pendingOf z).push _).toList _
    rw [Array.toList_push]
    exact this
theorem Sr.power (s : Sr a0 R T z) (i w : Nat) : Sr a0 R T (setPending z ((pendingOf z).modify i fun x => (x.1, x.2.1, w))) := by
  refine ⟨s.arr, s.perm, s.kind, s.failed, ?_⟩
  show Runs 0 ((pendingOf z).modify i _).toList _
  rw [Array.toList_modify]
  exact s.runs.pow
theorem Sr.one (s : Sr a0 R [] z) (h : (pendingOf z).size ≤ 1) : SortedTo (arrOf z) a0.size := by
  have e := s.runs.len.1
  rw [Array.length_toList] at e
  have ea := s.arr
  have er := s.runs
  rw [← s.size]
  refine sortedTo_of ?_
  match R, e, ea, er with
  | [], _, ea, _ =>
    rw [ea]
    exact .nil
  | [q], _, ea, er =>
    rw [ea]
    cases er' : (pendingOf z).toList with
    | nil =>
      rw [er'] at er
      cases er
    | cons p ps =>
      rw [er'] at er
      cases er with
      | cons a b c => simpa using b
  | _ :: _ :: _, e, _, _ =>
    simp only [List.length_cons] at e
    omega
end
section
variable {pg : Program} {wo : World} {Ar : Around} {Ex : Value → Shared → Prop} {sh : Shared} {a0 : Array Keyed} {st : SortSt}
theorem pick {n : Nat} (c : Prop) [Decidable c] (h : ¬ n ≤ 1) : (if c then n - 2 - 1 else n - 2) + 1 < n := by
  split <;> omega
theorem wpS_sortAll {Qa : Unit → SortSt → Prop} (ik : IntKeys a0) (s0 : Sr a0 [] a0.toList st) (h : ∀ z, (arrOf z).Perm a0 → failedOf z = none → SortedTo (arrOf z) a0.size → Qa () z) : wpS (model pg wo) Ar Ex sh sortRuns' Qa st := by
  refine wpS_bind (wpS_get ?_)
  dsimp only
  obtain ⟨sz, hsz⟩ : ∃ sz, (arrOf st).size = sz := ⟨_, rfl⟩
  rw [show ((sortPriv% PySem.Builtin.SortState.a) st).size = sz from hsz]
  obtain ⟨mr, hmr⟩ : ∃ mr, (sortPriv% PySem.Builtin.minRun) sz sz 0 = mr := ⟨_, rfl⟩
  rw [hmr]
  have za : a0.size = sz := by rw [← hsz, s0.size]
  have full : ∀ {R T z}, Sr a0 R T z → R.flatten.length + T.length = sz := fun {R T z} s => by
    have := s.perm.length_eq
    rw [s.arr, List.length_append] at this
    have e : a0.toList.length = a0.size := Array.length_toList
    omega
  refine wpS_bind (wpS_mono (wpS_forRange (I := fun x c z => ∃ R T, c = (none, R.flatten.length) ∧ Sr a0 R T z ∧ x ≤ R.flatten.length) (Q := fun c z => ∃ R l, c = (none, l) ∧ Sr a0 R [] z) ?_ ?_ ⟨[], a0.toList, rfl, s0, Nat.zero_le _⟩) ?_)
  · rintro x c z _ _ ⟨R, T, rfl, s, hx⟩
    dsimp only
    have hl := full s
    refine wpS_ite (fun y => ?_) fun y => ?_
    · have : T = [] := List.length_eq_zero_iff.mp (by omega)
      subst this
      exact wpS_pure ⟨R, _, rfl, s⟩
    have f0 : Fr R.flatten.length (arrOf z) (pendingOf z) z := ⟨Array.Perm.refl _, fun _ _ => rfl, s.kind, s.failed, rfl⟩
    have zs := s.size
    refine wpS_bind (wpS_count (s.ints ik) f0 (by omega) (by omega) fun m z1 f1 m1 m2 u1 => ?_)
    dsimp only
    refine wpS_ite (fun y2 => wpS_bind (wpS_lift (wpAny_rule ⟨rfl, wpS_bind (wpS_bin (s.ints ik) f1 (by omega) m1 (by omega) u1 fun z2 f2 u2 => wpS_ite (fun y3 => absurd y3 (by decide)) fun _ => ?_)⟩))) fun y2 => ?_
    obtain ⟨r, T', s2, lr, sr, lT⟩ := s.found f2 (by omega) u2
    rotate_left
    obtain ⟨r, T', s2, lr, sr, lT⟩ := s.found f1 (by omega) u1
    have z2 := z1
    rotate_left
    all_goals
      have r1 : 1 ≤ r.length := by omega
      rw [← lr]
      refine wpS_bind (wpS_get ?_)
      generalize ho : Array.back? _ = o
      cases o with
      | none =>
        dsimp only
        refine wpS_bind (wpS_modify (wpS_pure ⟨R ++ [r], T', ?_, s2.push r1 sr, ?_⟩))
        · rw [List.flatten_append, List.length_append]
          simp
        · have e : [r].flatten.length = r.length := by simp
          rw [List.flatten_append, List.length_append]
          omega
      | some t =>
        obtain ⟨t1, t2, t3⟩ := t
        dsimp only
        refine wpS_bind (wpS_mono (wpS_forRange (I := fun x c w => c = (none, ()) ∧ ∃ R', Sr a0 R' (r ++ T') w ∧ R'.flatten.length = R.flatten.length) (Q := fun c w => c = (none, ()) ∧ ∃ R', Sr a0 R' (r ++ T') w ∧ R'.flatten.length = R.flatten.length) ?_ (fun _ _ k => k) ⟨rfl, R, s2, rfl⟩) ?_)
        · rintro x' c w _ _ ⟨rfl, R', s3, l3⟩
          refine wpS_bind (wpS_get ?_)
          by_cases hp : (pendingOf w).size > 1
          · rw [if_pos (show ((sortPriv% PySem.Builtin.SortState.pending) w).size > 1 from hp)]
            generalize ((sortPriv% PySem.Builtin.SortState.pending) w)[((sortPriv% PySem.Builtin.SortState.pending) w).size - 2]? = o
            cases o with
            | none => exact wpS_pure ⟨rfl, R', s3, l3⟩
            | some t =>
              obtain ⟨q1, q2, q3⟩ := t
              dsimp only
              refine wpS_ite (fun _ => wpS_pure ⟨rfl, R', s3, l3⟩) fun _ => wpS_bind (wpS_mergeR ik s3 (by show (pendingOf w).size - 2 + 1 < (pendingOf w).size; omega) fun z3 R3 s4 l4 _ => wpS_ite (fun y3 => absurd y3 (by decide)) fun _ => wpS_pure ⟨rfl, R3, s4, by omega⟩)
          · rw [if_neg (show ¬ ((sortPriv% PySem.Builtin.SortState.pending) w).size > 1 from hp)]
            exact wpS_pure ⟨rfl, R', s3, l3⟩
        · rintro c w ⟨rfl, R', s3, l3⟩
          dsimp only
          rw [← l3]
          refine wpS_bind (wpS_modify (wpS_bind (wpS_modify (wpS_pure ⟨R' ++ [r], T', ?_, (s3.power _ _).push r1 sr, ?_⟩))))
          · rw [List.flatten_append, List.length_append]
            simp
          · have e : [r].flatten.length = r.length := by simp
            rw [List.flatten_append, List.length_append]
            omega
  · rintro c z ⟨R, T, rfl, s, hx⟩
    have hl := full s
    have : T = [] := List.length_eq_zero_iff.mp (by omega)
    subst this
    exact ⟨R, _, rfl, s⟩
  rintro c z ⟨R, l, rfl, s⟩
  dsimp only
  have hl := full s
  have hr := s.runs.len
  rw [Array.length_toList] at hr
  rw [List.length_nil] at hl
  refine wpS_bind (wpS_mono (wpS_forRange (I := fun x c w => c = (none, ()) ∧ ∃ R', Sr a0 R' [] w ∧ (pendingOf w).size + x ≤ sz) (Q := fun c w => c = (none, ()) ∧ ∃ R', Sr a0 R' [] w ∧ (pendingOf w).size ≤ 1) ?_ ?_ ⟨rfl, R, s, by omega⟩) ?_)
  · rintro x c w _ xl ⟨rfl, R', s3, l3⟩
    refine wpS_bind (wpS_get ?_)
    refine wpS_ite (fun y => wpS_pure ⟨rfl, R', s3, y⟩) fun y => ?_
    have y' : ¬ (pendingOf w).size ≤ 1 := y
    refine wpS_bind (wpS_mergeR ik s3 ?_ fun z3 R3 s4 l4 l5 => wpS_ite (fun y3 => absurd y3 (by decide)) fun _ => wpS_pure ⟨rfl, R3, s4, by omega⟩)
    exact pick _ y'
  · rintro c w ⟨rfl, R', s3, l3⟩
    exact ⟨rfl, R', s3, by omega⟩
  · rintro c w ⟨rfl, R', s3, l3⟩
    exact wpS_pure (h w (Array.perm_iff_toList_perm.mpr s3.perm) s3.failed (s3.one l3))
end
end L2
namespace L2
open PySem PySem.Spec PyProof.Rows
/-! THE LONG SORT, 9: list.sort, sorted, sorted of a set -/
section
variable {pg : Program} {wo : World} {Ar : Around} {Ex : Value → Shared → Prop} {sh : Shared}
theorem srt_tree {a : Addr} {us : List Value} {ms : List Int} {n : Nat} {Pf : PySem.Fin → Shared → Prop} (ho : sh.heap.get? a = some (seqObj "list" us.toArray n)) (ia : IntsAre us ms) (two : 2 ≤ us.length) (big : us.length ≤ 1000)
    (hq : ∀ (out : Array Value) (ms' : List Int), IntsAre out.toList ms' → ms'.Perm ms → ms'.Pairwise (· ≤ ·) → Pf (.done (.ret .none)) { sh with heap := sortedHeap sh.heap a us out }) :
    wpAny (model pg wo) Ar (Builtin.«list.sort» ⟨[.ref a], []⟩) Pf Ex sh := by
  rw [list_sort_plain]
  have la : a < sh.heap.objs.size := Heap.lt_size ho
  refine wpAny_bind (listItems_at ho rfl (wpAny_bind (listUpdate_at ho rfl ?_ (hsz2 := by simp))))
  obtain ⟨n1, o1⟩ : ∃ n1, (sh.heap.update a (Obj.mapSeq fun _ => #[])).get? a = some (seqObj "list" #[] n1) := ⟨_, get?_update_seq ho (fun _ => #[])⟩
  refine wpAny_bind (seqEpoch_at o1 rfl (wpAny_bind (wpAny_newTuple (wpAny_bind (wpAny_newList (wpAny_holding ?_))))))
  have o6 : (((sh.heap.update a (Obj.mapSeq fun _ => #[])).push (seqObj "tuple" us.toArray 0)).push (seqObj "list" #[] 0)).get? a = some (seqObj "list" #[] n1) := by
    rw [Heap.get?_push_ne _ _ _ (by rw [size_push', Heap.size_update]; exact Nat.ne_of_lt (Nat.lt_succ_of_lt la)), Heap.get?_push_ne _ _ _ (by rw [Heap.size_update]; exact Nat.ne_of_lt la)]
    exact o1
  show wpAny (model pg wo) Ar _ Pf Ex { sh with heap := ((sh.heap.update a (Obj.mapSeq fun _ => #[])).push (seqObj "tuple" us.toArray 0)).push (seqObj "list" #[] 0) }
  dsimp only
  have nt : ¬ us.toArray.size < 2 := by rw [List.size_toArray]; omega
  rw [if_neg nt, if_neg nt]
  obtain ⟨x, y, r, rfl⟩ : ∃ x y r, us = x :: y :: r := by
    match us, two with
    | x :: y :: r, _ => exact ⟨x, y, r, rfl⟩
  rw [keyKind_ints ia]
  refine wpAny_bind (wpAny_pure (wpAny_bind (wpAny_mono (wpS_sortAll (a0 := pairsOf (x :: y :: r)) (st := SortSt.mk' oneType' ((x :: y :: r).toArray.zip (x :: y :: r).toArray) #[] 7 none)
    (Qa := fun _ z => (arrOf z).Perm (pairsOf (x :: y :: r)) ∧ failedOf z = none ∧ SortedTo (arrOf z) (pairsOf (x :: y :: r)).size)
    ia.intKeys ⟨rfl, .refl _, rfl, rfl, .nil⟩ fun z b1 b2 b3 => ⟨b1, b2, b3⟩) ?_ fun _ _ e => e)))
  rintro ⟨⟨⟩, z⟩ s2 ⟨rfl, pm, fl, so⟩
  dsimp only
  have sz : ((arrOf z).map (·.2)).size ≤ sizeLine + 1 := by
    rw [Array.size_map, pm.size_eq, pairsOf_size, sizeLine_eq]
    omega
  refine wpAny_bind (seqEpoch_at o6 rfl (wpAny_bind (listUpdate_at o6 rfl ?_ (hsz2 := sz))))
  rw [fl]
  simp only [bne_self_eq_false, Bool.false_eq_true, if_false]
  obtain ⟨ms', c1, c2, c3⟩ := sorted_out ia pm so
  exact wpAny_pure (hq _ ms' c1 c2 c3)
theorem srt_sorted {l : Addr} {us : List Value} {ms : List Int} {Qv : Value → Shared → Prop} (hl : sh.heap.IsList l us.toArray) (ia : IntsAre us ms) (two : 2 ≤ us.length) (big : us.length ≤ 1000)
    (hq : ∀ (out : Array Value) (ms' : List Int), IntsAre out.toList ms' → ms'.Perm ms → ms'.Pairwise (· ≤ ·) → Qv (.ref (sh.heap.objs.size + 1)) { sh with heap := sortedAll sh.heap us out }) :
    wpAny (model pg wo) Ar (call (.builtin "sorted") [.ref l]) Qv Ex sh := by
  have bg : us.length ≤ sizeLine := by rw [sizeLine_eq]; omega
  refine Calls.call_function_entry kind_sorted plain_sorted entry_sorted (args_sorted1 (.ref l)) ?_
  unfold Builtin.«sorted»
  refine wpAny_bind (m := checkCount "sorted" 1 1 _) (wpAny_pure (wpAny_bind (collect_list hl (wpAny_bind (wpAny_newList ?_ (by exact bg))) bg)))
  have sz : ((sh.heap.push (seqObj "list" #[] 0)).update sh.heap.objs.size (Obj.mapSeq (· ++ us.toArray))).objs.size = sh.heap.objs.size + 1 := by
    rw [Heap.size_update, size_push']
  have oL : (((sh.heap.push (seqObj "list" #[] 0)).update sh.heap.objs.size (Obj.mapSeq (· ++ us.toArray))).push (seqObj "list" us.toArray 0)).get? (sh.heap.objs.size + 1) = some (seqObj "list" us.toArray 0) := by
    rw [← sz]; exact Heap.get?_push_size _ rfl
  show wpAny _ _ _ _ _ { sh with heap := ((sh.heap.push (seqObj "list" #[] 0)).update sh.heap.objs.size (Obj.mapSeq (· ++ us.toArray))).push (seqObj "list" us.toArray 0) }
  rw [sz]
  refine wpAny_bind (wpAny_holding (wpAny_call_entry slot_list_sort ⟨_, oL, rfl⟩ entry_list_sort (srt_tree oL ia two big fun out ms' c1 c2 c3 => ⟨_, rfl, ?_⟩) (args_list_sort _)))
  exact wpAny_pure ⟨_, rfl, hq out ms' c1 c2 c3⟩
theorem srt_set {a : Addr} {ns : List Int} {Qv : Value → Shared → Prop} (S : Lp.SetI pg wo sh.heap a ns) (hh : Ar.handled = none) (two : 2 ≤ ns.length) (big : ns.length ≤ 1000)
    (hq : ∀ (h' : Heap) (tk : Nat) (d : PySem.Drawn) (l : Addr) (out : List Value) (ns' : List Int) (e : Nat), sh.heap.objs.size ≤ l → (∀ b o, sh.heap.get? b = some o → h'.get? b = some o) → h'.get? l = some (seqObj "list" out.toArray e) → IntsAre out ns' → ns'.Perm ns → ns'.Pairwise (· ≤ ·) → Qv (.ref l) { sh with heap := h', toks := tk, drawn := d }) :
    wpAny (model pg wo) Ar (call (.builtin "sorted") [.ref a]) Qv Ex sh := by
  refine Calls.call_function_entry kind_sorted plain_sorted entry_sorted (args_sorted1 _) ?_
  unfold Builtin.«sorted»
  refine wpAny_bind (m := checkCount "sorted" 1 1 _) (wpAny_pure ?_)
  refine wpAny_bind (Lp.collect_set S hh fun h' tk d vs ms hlt hk hi hp hz => ?_)
  have hl : vs.length = ns.length := by rw [Lp.ints_len hi, hp.length_eq]
  refine wpAny_bind (wpAny_newList ?_)
  have hoL : (h'.push (seqObj "list" vs.toArray 0)).get? h'.objs.size = some (seqObj "list" vs.toArray 0) := Heap.get?_push_size _ rfl
  show wpAny _ _ _ _ _ { sh with heap := h'.push (seqObj "list" vs.toArray 0), toks := tk, drawn := d }
  refine wpAny_bind (wpAny_holding (wpAny_call_entry slot_list_sort ⟨_, hoL, rfl⟩ entry_list_sort (srt_tree hoL hi (by omega) (by omega) fun out ns' a1 a2 a3 => ⟨_, rfl, ?_⟩) (args_list_sort _)))
  obtain ⟨e, he⟩ := sortedHeap_at (out := out) hoL
  refine wpAny_pure ⟨_, rfl, hq _ tk d h'.objs.size out.toList ns' e (Nat.le_of_lt hlt) (fun b o q => ?_) (by rw [Array.toArray_toList]; exact he) a1 (a2.trans hp) a3⟩
  have hlt := Heap.lt_size (hk b o q)
  rw [sortedHeap_old (Nat.ne_of_lt hlt) (by rw [size_push']; exact Nat.lt_succ_of_lt hlt), Heap.get?_push_ne _ _ _ (Nat.ne_of_lt hlt)]
  exact hk b o q
end
section
variable {X : Cx}
/-- sorted of up to 1000 whole numbers -/
theorem call_sortedN : CallR X (.builtin "sorted") (fun xs H Q => ∃ (p : Addr) (ns : List Int), xs = [.ref p] ∧ SqL X.K H p (ns.map V.int) ∧ ns.length ≤ 1000 ∧
    ∀ (l : Addr) (ns' : List Int), H l = none → ns'.Perm ns → ns'.Pairwise (· ≤ ·) → Q (.ref l) (upd H l (.lst (ns'.map V.int)))) := by
  intro pins s σ H xs us Q I r h
  obtain ⟨p, ns, e, hS, hb, k⟩ := h
  by_cases h64 : ns.length < 64
  · exact call_sorted pins s σ H xs us Q I r ⟨p, ns, e, hS, h64, k⟩
  subst e
  obtain ⟨u, rfl, rx⟩ := vals1 r
  cases rx
  obtain ⟨its, rI, pl, hz⟩ := I.list hS
  have hI : IntsAre its ns := intsAre_of rI
  have hlen := rI.length
  rw [List.length_map] at hlen
  refine srt_sorted pl.isList hI (by omega) (by omega) fun out ns' a1 a2 a3 => ?_
  obtain ⟨e, he⟩ := sortedAll_at s.heap its out
  have hl' : ns'.length = ns.length := a2.length_eq
  have hz' : (ns'.map V.int).length ≤ sizeLine := by rw [List.length_map, hl']; exact Nat.le_of_lt (small1000 (by omega))
  have he' : (sortedAll s.heap its out).get? (s.heap.objs.size + 1) = some { cls := .type "list", data := .seq out.toList.toArray e } := by rw [Array.toArray_toList]; exact he
  exact ⟨.ref (s.heap.objs.size + 1), _, I.laid (t' := s.toks) (fun b o e => sortedAll_old e) (Nat.le_succ _) (show ObjOk X.prog X.w _ _ _ (.lst (ns'.map V.int)) from ⟨hz', out.toList, e, vals_ints a1, he'⟩), rfl, k _ _ (I.hok.fresh (Nat.le_succ _)) a2 a3⟩
theorem call_sortedSetN (hc : X.calm = true) : CallR X (.builtin "sorted") (fun xs H Q => ∃ (a : Addr) (ns : List Int), xs = [.ref a] ∧ H a = some (setHO X.prog X.w a ns) ∧ ns.length ≤ 1000 ∧
    ∀ (l : Addr) (ns' : List Int), H l = none → ns'.Perm ns → ns'.Pairwise (· ≤ ·) → Q (.ref l) (upd H l (.lst (ns'.map V.int)))) := by
  intro pins s σ H xs us Q I r h
  obtain ⟨a, ns, e, hS, hb, k⟩ := h
  by_cases h64 : ns.length < 64
  · exact call_sortedSet hc pins s σ H xs us Q I r ⟨a, ns, e, hS, h64, k⟩
  subst e
  obtain ⟨u, rfl, rx⟩ := vals1 r
  cases rx
  obtain ⟨S, _, _⟩ := (show ObjOk X.prog X.w H s.heap a (setHO X.prog X.w a ns) from I.hok a _ hS)
  refine srt_set S (I.ok.hd hc) (by omega) hb fun h' tk d l out ns' e hle kp he a1 a2 a3 => ?_
  have hl' : ns'.length = ns.length := a2.length_eq
  have hz' : (ns'.map V.int).length ≤ sizeLine := by rw [List.length_map, hl']; exact Nat.le_of_lt (small1000 (by omega))
  exact ⟨.ref l, _, (I.laid (t' := tk) kp hle (show ObjOk X.prog X.w _ _ _ (.lst (ns'.map V.int)) from ⟨hz', out, e, vals_ints a1, he⟩)).drawn d, rfl, k _ _ (I.hok.fresh hle) a2 a3⟩
end
end L2
namespace Lp
open PySem L2
def top (i : Nat) : Stmt := PySem.Challenge.pw_linkpay_k08_whole_all_amounts_by_few.main.body.getD i (.Pass ⟨0, 0, 0, 0⟩)
abbrev s_check_links : Stmt := top 7
abbrev s_rises_below : Stmt := top 8
abbrev s_check_row : Stmt := top 9
abbrev s_pieces : Stmt := top 10
abbrev s_sizes : Stmt := top 11
abbrev s_gap : Stmt := top 12
abbrev s_longest : Stmt := top 15
abbrev s_fewest : Stmt := top 16
abbrev s_opened_for : Stmt := top 17
abbrev s__law_cell_at : Stmt := top 19
abbrev s__law_next : Stmt := top 20
abbrev s__law_whole : Stmt := top 21
abbrev s__law_numbers_like : Stmt := top 22
abbrev s__law_pieces : Stmt := top 23
abbrev s__law_longest : Stmt := top 24
abbrev s__law_right : Stmt := top 25
abbrev s__law_gap : Stmt := top 26
abbrev s__law_turned : Stmt := top 27
abbrev s_law : Stmt := top 28
section
variable {P : Program} {w : World} {K : PySem.W.Frag} {mg : Str → Option Value} {base : Heap}
/-! check_links -/
def spCheckLinks : Sp := fun vs H Q _ => ∃ (links : Int), vs = [.int links] ∧ 1 ≤ links ∧ links ≤ 10 ^ 30 ∧ Q .non H
theorem sc_check_links : FnScope ["links"] ["links"] (defScope s_check_links) := ⟨rfl, rfl, rfl, by decide +kernel, rfl, by decide +kernel, by decide +kernel⟩
theorem ok_check_links (D : Df K mg "check_links" ["links"] s_check_links) : Cal P w K mg base CX0 1 "check_links" ["links"] spCheckLinks := by
  refine D.ok sc_check_links (fun vs H Q E h => ?_) (fun f cdv A outer s H vs Q E hr h => ?_)
  · obtain ⟨l, rfl, _⟩ := h
    rfl
  · obtain ⟨l, rfl, h1, h2, q⟩ := h
    refine ⟨_, pss_one (ps_if (pt_not (pt_chain op_le op_le pe_int (pv 0) (pe_op op_pow pe_int pe_int))) pss_never pss_nil), ?_⟩
    refine ⟨_, rfl, _, _, rfl, rfl, _, rfl, iteD h1 ?_⟩
    refine ⟨_, _, rfl, rfl, ⟨by decide, by decide, by decide⟩, _, _, rfl, rfl, _, rfl, iteNS h2 ?_⟩
    exact q
/-! rises_below -/
def risesB (e : Int) : Int → List Int → Bool
  | _, [] => true
  | b, x :: r => if b < x ∧ x < e then risesB e x r else false
theorem risesB_of : ∀ {e b : Int} {ns : List Int}, ns.Pairwise (· < ·) → (∀ o ∈ ns, b < o ∧ o < e) → risesB e b ns = true
  | _, _, [], _, _ => rfl
  | e, b, x :: r, p, h => by
    obtain ⟨p1, p2⟩ := List.pairwise_cons.mp p
    rw [risesB, if_pos (h x List.mem_cons_self)]
    exact risesB_of p2 fun o ho => ⟨p1 o ho, (h o (List.mem_cons_of_mem _ ho)).2⟩
def spRises (K : PySem.W.Frag) : Sp := fun vs H Q _ => ∃ (a : Addr) (ns : List Int) (e : Int), vs = [.ref a, .int e] ∧ SqL K H a (ns.map V.int) ∧ Q (.bl (risesB e (-1) ns)) H
theorem sc_rises_below : FnScope ["numbers", "end", "before", "number"] ["numbers", "end"] (defScope s_rises_below) := ⟨rfl, rfl, rfl, by decide +kernel, rfl, by decide +kernel, by decide +kernel⟩
theorem ok_rises_below (D : Df K mg "rises_below" ["numbers", "end"] s_rises_below) : Cal P w K mg base CX0 1 "rises_below" ["numbers", "end"] (spRises K) := by
  have S := sc_rises_below
  refine D.ok S (fun vs H Q E h => ?_) (fun f cdv A outer s H vs Q E hr h => ?_)
  · obtain ⟨a, ns, e, rfl, _⟩ := h
    rfl
  · obtain ⟨a, ns, e, rfl, hS, q⟩ := h
    refine ⟨_, pss_cons (ps_set (i := 2) S.nd rfl (Or.inl rfl) (pe_un un_neg pe_int))
      (pss_cons (ps_for PassesOwn.never rfl (pi_list (pv 0)) (pg_name (i := 3) S.nd rfl (Or.inl rfl))
        (pss_cons (ps_if (pt_not (pt_chain op_lt op_lt (pv 2) (pv 3) (pv 1))) (pss_one (ps_ret pe_bl)) pss_nil)
        (pss_one (ps_set (i := 2) S.nd rfl (Or.inl rfl) (pv 3)))))
      (pss_one (ps_ret pe_bl))), ?_⟩
    refine ⟨_, rfl, _, rfl, a, rfl, ⟨_, hS⟩, for_list (K := K) (a := a) (xs := ns.map V.int) (fun i σ H' => H' = H ∧ ∃ (b : Int) (v : Option V), σ = [some (.ref a), some (.int e), some (.int b), v] ∧ risesB e (-1) ns = risesB e b (ns.drop i)) ?_ ?_ ?_ ?_⟩
    · exact ⟨rfl, -1, none, rfl, rfl⟩
    · rintro i σ H' _ ⟨rfl, _⟩
      exact hS
    · rintro i x σ H' hi ⟨rfl, b, v, rfl, hb⟩
      obtain ⟨z, rfl, hz⟩ := map_get hi
      obtain ⟨hlt, ez⟩ := List.getElem?_eq_some_iff.mp hz
      have ed : ns.drop i = z :: ns.drop (i + 1) := by rw [List.drop_eq_getElem_cons hlt, ez]
      rw [ed, risesB] at hb
      refine ⟨_, rfl, _, rfl, _, _, rfl, rfl, _, rfl, ite2D (fun c => ?_) (fun c => ?_)⟩
      · refine ⟨_, rfl, _, _, rfl, rfl, _, rfl, ite2N (fun d => ?_) (fun d => ?_)⟩
        · rw [if_neg (by omega)] at hb
          rw [hb] at q
          exact q
        · rw [if_pos ⟨c, d⟩] at hb
          exact ⟨_, rfl, rfl, z, _, rfl, hb⟩
      · rw [if_neg (by omega)] at hb
        rw [hb] at q
        exact ⟨_, rfl, iteT q⟩
    · rintro σ H' ⟨rfl, b, v, rfl, hb⟩
      rw [List.length_map, List.drop_length] at hb
      rw [hb] at q
      exact q
/-! check_row -/
def spCheckRow (K : PySem.W.Frag) : Sp := fun vs H Q _ => ∃ (links : Int) (a : Addr) (os : List Int), vs = [.int links, .ref a] ∧ SqL K H a (os.map V.int) ∧ RowOk links os 100 ∧ Q .non H
theorem sc_check_row : FnScope ["links", "opened"] ["links", "opened"] (defScope s_check_row) := ⟨rfl, rfl, rfl, by decide +kernel, rfl, by decide +kernel, by decide +kernel⟩
theorem row_rises {links : Int} {os : List Int} {m : Nat} (R : RowOk links os m) : risesB links (-1) os = true := risesB_of R.inc fun o ho => by have := R.rng o ho; omega
theorem ok_check_row (D : Df K mg "check_row" ["links", "opened"] s_check_row) (B : Bl mg) (hM : ∃ t, mg "MOST_OPENED" = some (.int 100 t)) (C1 : Cal P w K mg base CX0 1 "check_links" ["links"] spCheckLinks)
    (C2 : Cal P w K mg base CX0 1 "rises_below" ["numbers", "end"] (spRises K)) : Cal P w K mg base CX0 2 "check_row" ["links", "opened"] (spCheckRow K) := by
  have S := sc_check_row
  obtain ⟨tM, hM⟩ := hM
  refine D.ok S (fun vs H Q E h => ?_) (fun f cdv A outer s H vs Q E hr h => ?_)
  · obtain ⟨l, a, os, rfl, _⟩ := h
    rfl
  · obtain ⟨links, a, os, rfl, hS, R, q⟩ := h
    refine ⟨_, pss_cons (ps_expr (pe_calf C1 hr rfl (pa_cons (pv 0) pa_nil)))
      (pss_one (ps_if (pt_or2 (pt_cmpR op_gt (pe_callB call_len_seq rfl B.n_len bb_len (pa_cons (pv 1) pa_nil)) (pe_glob (v := .int 100) rfl hM ⟨_, rfl⟩) (nomark _))
        (pt_not (pt_val (pe_calf C2 hr rfl (pa_cons (pv 1) (pa_cons (pv 0) pa_nil)))))) pss_never pss_nil)), ?_⟩
    refine ⟨_, rfl, links, rfl, R.lo, R.hi, ?_⟩
    refine ⟨_, rfl, a, _, rfl, .inl hS, _, _, rfl, rfl, _, rfl, iteDn (by have := R.len; rw [List.length_map]; omega) ?_⟩
    refine ⟨_, rfl, _, rfl, a, os, links, rfl, hS, _, rfl, ?_⟩
    rw [row_rises R]
    exact q
/-! pieces -/
def spPieces (K : PySem.W.Frag) : Sp := fun vs H Q _ => ∃ (links : Int) (a : Addr) (os : List Int), vs = [.int links, .ref a] ∧ SqL K H a (os.map V.int) ∧ RowOk links os 100 ∧
  ∀ (p : Addr) (vs' : List V) (H' : Hp), H p = none → Grow H H' p vs' (piecesP links os) → Q (.ref p) H'
theorem sc_pieces : FnScope ["links", "opened", "told", "first", "link"] ["links", "opened"] (defScope s_pieces) := ⟨rfl, rfl, rfl, by decide +kernel, rfl, by decide +kernel, by decide +kernel⟩
theorem ok_pieces (D : Df K mg "pieces" ["links", "opened"] s_pieces) (C1 : Cal P w K mg base CX0 2 "check_row" ["links", "opened"] (spCheckRow K)) :
    Cal P w K mg base CX0 3 "pieces" ["links", "opened"] (spPieces K) := by
  have S := sc_pieces
  refine D.ok S (fun vs H Q E h => ?_) (fun f cdv A outer s H vs Q E hr h => ?_)
  · obtain ⟨l, a, os, rfl, _⟩ := h
    rfl
  · obtain ⟨links, a, os, rfl, hS, R, q⟩ := h
    refine ⟨_, pss_cons (ps_expr (pe_calf C1 hr rfl (pa_cons (pv 0) (pa_cons (pv 1) pa_nil))))
      (pss_cons (ps_set (i := 2) S.nd rfl (Or.inl rfl) (pe_lst pa_nil))
      (pss_cons (ps_set (i := 3) S.nd rfl (Or.inl rfl) pe_int)
      (pss_cons (ps_for PassesOwn.never rfl (pi_list (pv 1)) (pg_name (i := 4) S.nd rfl (Or.inl rfl))
        (pss_cons (ps_cut (ps_if (pt_cmpR op_lt (pv 3) (pv 4) (nomark _))
            (pss_one (ps_expr (pe_bm PySem.F.plainAttrs_list PySem.F.slot_list_append PySem.F.type_list_append mt_append (pv 2) (pa_cons (pe_tup (pa_cons (pv 3) (pa_cons (pe_op op_sub (pv 4) (pv 3)) pa_nil))) pa_nil)))) pss_nil))
        (pss_cons (ps_expr (pe_bm PySem.F.plainAttrs_list PySem.F.slot_list_append PySem.F.type_list_append mt_append (pv 2) (pa_cons (pe_tup (pa_cons (pv 4) (pa_cons pe_int pa_nil))) pa_nil)))
        (pss_one (ps_set (i := 3) S.nd rfl (Or.inl rfl) (pe_op op_add (pv 4) pe_int))))))
      (pss_cons (ps_cut (ps_if (pt_cmpR op_lt (pv 3) (pv 0) (nomark _))
          (pss_one (ps_expr (pe_bm PySem.F.plainAttrs_list PySem.F.slot_list_append PySem.F.type_list_append mt_append (pv 2) (pa_cons (pe_tup (pa_cons (pv 3) (pa_cons (pe_op op_sub (pv 0) (pv 3)) pa_nil))) pa_nil)))) pss_nil))
      (pss_one (ps_ret (pv 2))))))), ?_⟩
    have big : ∀ n : Nat, n ≤ 1000 → n < sizeLine := fun n h => small1000 h
    refine ⟨_, rfl, _, rfl, links, a, os, rfl, hS, R, ?_⟩
    refine ⟨by show 0 ≤ sizeLine; decide, fun l hl => ?_⟩
    refine ⟨_, rfl, a, rfl, ⟨_, (same_new hl _).seq hS⟩, for_list (K := K) (a := a) (xs := os.map V.int) (fun i σ H' => ∃ (ws : List V) (v : Option V),
      σ = [some (.int links), some (.ref a), some (.ref l), some (.int ((os.take i).foldl stepP ([], 0)).2), v] ∧ Grow H H' l ws ((os.take i).foldl stepP ([], 0)).1) ?_ ?_ ?_ ?_⟩
    · exact ⟨[], none, rfl, same_new hl _, upd_same, .nil⟩
    · rintro i σ H' _ ⟨ws, v, rfl, G⟩
      exact G.same.seq hS
    · rintro i x σ H1 hi ⟨ws, v, rfl, G⟩
      obtain ⟨z, rfl, hz⟩ := map_get hi
      have hlen : ((os.take i).foldl stepP ([], 0)).1.length ≤ 200 := by
        have h1 := foldP_len (os.take i) ([], 0)
        have h2 := R.len
        have h3 : (os.take i).length ≤ os.length := by rw [List.length_take]; omega
        simp only [List.length_nil] at h1
        omega
      have ef := fold_take stepP (([], 0) : List (Int × Int) × Int) hz
      refine ⟨fun σ2 H2 => ∃ (ws : List V), σ2 = [some (.int links), some (.ref a), some (.ref l), some (.int ((os.take i).foldl stepP ([], 0)).2), some (.int z)] ∧
        Grow H H2 l ws (((os.take i).foldl stepP ([], 0)).1 ++ if ((os.take i).foldl stepP ([], 0)).2 < z then [(((os.take i).foldl stepP ([], 0)).2, z - ((os.take i).foldl stepP ([], 0)).2)] else []), ?_, ?_⟩
      · refine ⟨_, rfl, _, rfl, _, _, rfl, rfl, _, rfl, ite2D (fun c => ?_) (fun c => ?_)⟩
        · refine ⟨_, rfl, .inl ⟨rfl, _, SqL.of G.at_⟩, _, rfl, _, rfl, _, rfl, _, _, rfl, rfl, (by show 2 ≤ sizeLine; decide), fun t ht => ?_⟩
          refine ⟨l, _, _, rfl, rfl, (G.tup ht).at_, big _ (by have := G.tups.length; omega), ?_⟩
          refine ⟨ws ++ [.ref t], rfl, ?_⟩
          rw [if_pos c]
          exact G.push hl ht
        · refine ⟨ws, rfl, ?_⟩
          rw [if_neg c, List.append_nil]
          exact G
      · rintro σ2 H2 ⟨ws2, rfl, G2⟩
        have hlen2 : ws2.length ≤ 201 := by
          rw [G2.tups.length, List.length_append]
          split <;> simp <;> omega
        refine ⟨_, rfl, .inl ⟨rfl, _, SqL.of G2.at_⟩, _, rfl, (by show 2 ≤ sizeLine; decide), fun t ht => ?_⟩
        refine ⟨l, _, _, rfl, rfl, (G2.tup ht).at_, big _ (by omega), ?_⟩
        refine ⟨_, rfl, _, _, rfl, rfl, ?_⟩
        refine ⟨ws2 ++ [.ref t], some (.int z), ?_, ?_⟩
        rotate_left
        · rw [ef]
          exact G2.push hl ht
        · rw [ef]
          rfl
    · rintro σ H1 ⟨ws, v, rfl, G⟩
      rw [List.length_map, List.take_length] at G
      have hlen : (os.foldl stepP ([], 0)).1.length ≤ 200 := by
        have h1 := foldP_len os ([], 0)
        have h2 := R.len
        simp only [List.length_nil] at h1
        omega
      refine ⟨fun σ2 H2 => ∃ (ws : List V) (v2 v3 : Option V), σ2 = [some (.int links), some (.ref a), some (.ref l), v2, v3] ∧ Grow H H2 l ws (piecesP links os), ?_, ?_⟩
      · refine ⟨_, rfl, _, rfl, _, _, rfl, rfl, _, rfl, ite2D (fun c => ?_) (fun c => ?_)⟩
        · rw [List.length_map, List.take_length] at c
          refine ⟨_, rfl, .inl ⟨rfl, _, SqL.of G.at_⟩, _, rfl, _, rfl, _, rfl, _, _, rfl, rfl, (by show 2 ≤ sizeLine; decide), fun t ht => ?_⟩
          refine ⟨l, _, _, rfl, rfl, (G.tup ht).at_, big _ (by have := G.tups.length; omega), ?_⟩
          refine ⟨ws ++ [.ref t], _, _, rfl, ?_⟩
          unfold piecesP
          rw [if_pos c, List.length_map, List.take_length]
          exact G.push hl ht
        · rw [List.length_map, List.take_length] at c
          refine ⟨ws, _, _, rfl, ?_⟩
          unfold piecesP
          rw [if_neg c, List.append_nil]
          exact G
      · rintro σ2 H2 ⟨ws2, v2, v3, rfl, G2⟩
        exact ⟨_, rfl, q l ws2 H2 hl G2⟩
/-! sizes -/
def spSizes (K : PySem.W.Frag) : Sp := fun vs H Q _ => ∃ (links : Int) (a : Addr) (os : List Int), vs = [.int links, .ref a] ∧ SqL K H a (os.map V.int) ∧ RowOk links os 100 ∧
  ∀ (p : Addr) (H' : Hp), Same H H' → H p = none → H' p = some (.lst ((sizesP links os).map V.int)) → Q (.ref p) H'
theorem sc_sizes : FnScope ["links", "opened"] ["links", "opened"] (defScope s_sizes) := ⟨rfl, rfl, rfl, by decide +kernel, rfl, by decide +kernel, by decide +kernel⟩
theorem ok_sizes (D : Df K mg "sizes" ["links", "opened"] s_sizes) (C1 : Cal P w K mg base CX0 3 "pieces" ["links", "opened"] (spPieces K)) : Cal P w K mg base CX0 4 "sizes" ["links", "opened"] (spSizes K) := by
  have S := sc_sizes
  refine D.ok S (fun vs H Q E h => ?_) (fun f cdv A outer s H vs Q E hr h => ?_)
  · obtain ⟨l, a, os, rfl, _⟩ := h
    rfl
  · obtain ⟨links, a, os, rfl, hS, R, q⟩ := h
    refine ⟨_, pss_one (ps_ret (pe_lcomp (N := ["piece"]) (BlkS.plain rfl (by decide +kernel) (by decide +kernel)) rfl (pi_list (pe_calf C1 hr rfl (pa_cons (pv 0) (pa_cons (pv 1) pa_nil))))
      (fun _ _ _ _ _ => pg_name (i := 0) (nd_one _) rfl (Or.inl rfl)) (fun _ _ _ _ _ => pts_nil) (fun _ _ _ _ _ => pe_ix (ix_tupK K rfl) (pv 0) pe_int (fun _ _ => rfl)))), ?_⟩
    refine ⟨_, rfl, _, rfl, links, a, os, rfl, hS, R, fun p vs' H1 hp G => ?_⟩
    refine ⟨p, rfl, ⟨_, SqL.of G.at_⟩, fun D hD => ⟨_, FromOuter.none, ?_⟩⟩
    exact lc_sizes hp G hD (by have := R.len; have := piecesP_len links os; omega) fun H2 s2 hD2 => q D H2 s2 (G.same.free hD) hD2
/-! gap -/
def gapV (o : Option Int) : V := match o with
  | some g => .int g
  | none => .non
def spGap (K : PySem.W.Frag) : Sp := fun vs H Q _ => ∃ (links : Int) (a : Addr) (os : List Int), vs = [.int links, .ref a] ∧ SqL K H a (os.map V.int) ∧ RowOk links os 100 ∧
  ∀ (ys : List Int) (H' : Hp), Same H H' → ys.Perm (sizesP links os) → ys.Pairwise (· ≤ ·) → Q (gapV (gapOf 0 ys)) H'
theorem sc_gap : FnScope ["links", "opened", "reach", "size"] ["links", "opened"] (defScope s_gap) := ⟨rfl, rfl, rfl, by decide +kernel, rfl, by decide +kernel, by decide +kernel⟩
theorem ok_gap (D : Df K mg "gap" ["links", "opened"] s_gap) (B : Bl mg) (C1 : Cal P w K mg base CX0 4 "sizes" ["links", "opened"] (spSizes K)) : Cal P w K mg base CX0 5 "gap" ["links", "opened"] (spGap K) := by
  have S := sc_gap
  refine D.ok S (fun vs H Q E h => ?_) (fun f cdv A outer s H vs Q E hr h => ?_)
  · obtain ⟨l, a, os, rfl, _⟩ := h
    rfl
  · obtain ⟨links, a, os, rfl, hS, R, q⟩ := h
    refine ⟨_, pss_cons (ps_set (i := 2) S.nd rfl (Or.inl rfl) pe_int)
      (pss_cons (ps_for PassesOwn.never rfl (pi_list (pe_callB call_sortedN rfl B.n_sorted bb_sorted (pa_cons (pe_calf C1 hr rfl (pa_cons (pv 0) (pa_cons (pv 1) pa_nil))) pa_nil))) (pg_name (i := 3) S.nd rfl (Or.inl rfl))
        (pss_cons (ps_if (pt_cmpR op_gt (pv 3) (pe_op op_add (pv 2) pe_int) (nomark _)) (pss_one (ps_ret (pe_op op_add (pv 2) pe_int))) pss_nil)
        (pss_one (ps_aug (i := 2) S.nd rfl (Or.inl rfl) (pv 3) ip_add))))
      (pss_one (ps_ret pe_non))), ?_⟩
    refine ⟨_, rfl, _, rfl, links, a, os, rfl, hS, R, fun p H1 s1 hp hP => ?_⟩
    refine ⟨p, _, rfl, SqL.of hP, (by have := sizes_len (links := links) (os := os); have := R.len; omega), fun l ys hl pm so => ?_⟩
    have s2 : Same H (upd H1 l (.lst (ys.map V.int))) := s1.trans (same_new hl _)
    refine ⟨l, rfl, ⟨_, SqL.of upd_same⟩, ?_⟩
    refine for_list (K := K) (a := l) (xs := ys.map V.int) (fun i σ H' => H' = upd H1 l (.lst (ys.map V.int)) ∧ ∃ (r : Int) (v : Option V), σ = [some (.int links), some (.ref a), some (.int r), v] ∧ gapOf 0 ys = gapOf r (ys.drop i)) ?_ ?_ ?_ ?_
    · exact ⟨rfl, 0, none, rfl, rfl⟩
    · rintro i σ H' _ ⟨rfl, _⟩
      exact SqL.of upd_same
    · rintro i x σ H' hi ⟨rfl, r, v, rfl, hg⟩
      obtain ⟨z, rfl, hz⟩ := map_get hi
      obtain ⟨hlt, ez⟩ := List.getElem?_eq_some_iff.mp hz
      have ed : ys.drop i = z :: ys.drop (i + 1) := by rw [List.drop_eq_getElem_cons hlt, ez]
      rw [ed, gapOf] at hg
      refine ⟨_, rfl, _, rfl, _, _, rfl, rfl, _, _, rfl, rfl, _, rfl, ite2D (fun c => ?_) (fun c => ?_)⟩
      · rw [if_pos c] at hg
        refine ⟨_, rfl, _, _, rfl, rfl, ?_⟩
        have := q ys _ s2 pm so
        rw [hg] at this
        exact this
      · rw [if_neg c] at hg
        exact ⟨_, rfl, _, rfl, _, _, rfl, rfl, rfl, _, _, rfl, hg⟩
    · rintro σ H' ⟨rfl, r, v, rfl, hg⟩
      rw [List.length_map, List.drop_length] at hg
      have := q ys _ s2 pm so
      rw [hg] at this
      exact this
/-! longest -/
def spLongest : Sp := fun vs H Q _ => ∃ n : Int, vs = [.int n] ∧ 0 ≤ n ∧ n ≤ 100 ∧ Q (.int (longP n.toNat)) H
theorem sc_longest : FnScope ["openings", "amounts", "piece"] ["openings"] (defScope s_longest) := ⟨rfl, rfl, rfl, by decide +kernel, rfl, by decide +kernel, by decide +kernel⟩
theorem ok_longest (D : Df K mg "longest" ["openings"] s_longest) (B : Bl mg) (hM : ∃ t, mg "MOST_OPENINGS" = some (.int 100 t)) : Cal P w K mg base CX0 1 "longest" ["openings"] spLongest := by
  have S := sc_longest
  obtain ⟨tM, hM⟩ := hM
  refine D.ok S (fun vs H Q E h => ?_) (fun f cdv A outer s H vs Q E hr h => ?_)
  · obtain ⟨n, rfl, _⟩ := h
    rfl
  · obtain ⟨n, rfl, h0, h1, q⟩ := h
    refine ⟨_, pss_cons (ps_if (pt_not (pt_chain op_le op_le pe_int (pv 0) (pe_glob (v := .int 100) rfl hM ⟨_, rfl⟩))) pss_never pss_nil)
      (pss_cons (ps_set (i := 1) S.nd rfl (Or.inl rfl) (pe_op op_add (pv 0) pe_int))
      (pss_cons (ps_for PassesOwn.never rfl (pi_range1 rfl B.n_range (pa_cons (pe_op op_add (pv 0) pe_int) pa_nil)) (pg_name (i := 2) S.nd rfl (Or.inl rfl))
        (pss_one (ps_aug (i := 1) S.nd rfl (Or.inl rfl) pe_int ip_mul)))
      (pss_one (ps_ret (pe_op op_sub (pv 1) pe_int))))), ?_⟩
    refine ⟨_, rfl, _, _, rfl, rfl, _, rfl, iteD h0 ⟨_, _, rfl, rfl, _, rfl, iteNS h1 ?_⟩⟩
    refine ⟨_, rfl, _, _, rfl, rfl, _, rfl, _, _, rfl, rfl, _, rfl, (by omega), (by omega), ?_⟩
    refine for_range (lo := 0) (fun i σ H' => H' = H ∧ ∃ v : Option V, σ = [some (.int n), some (.int (dbl (n + 1) i)), v]) ?_ ?_ ?_
    · exact ⟨rfl, none, by rw [dbl_zero]; rfl⟩
    · rintro i σ H' hi ⟨rfl, v, rfl⟩
      refine ⟨_, rfl, _, _, rfl, rfl, .inr ⟨by decide, by decide⟩, rfl, some (.int (0 + (i : Int))), ?_⟩
      rw [← dbl_succ]
      rfl
    · rintro σ H' ⟨rfl, v, rfl⟩
      refine ⟨_, rfl, _, _, rfl, rfl, ?_⟩
      show Q (.int (dbl (n + 1) (n + 1).toNat - 1)) H'
      rw [dbl_long h0]
      exact q
/-! fewest -/
def spFewest : Sp := fun vs H Q _ => ∃ links : Int, vs = [.int links] ∧ 1 ≤ links ∧ links ≤ 10 ^ 30 ∧ ∀ n : Nat, Few links n → Q (.int n) H
theorem sc_fewest : FnScope ["links", "openings"] ["links"] (defScope s_fewest) := ⟨rfl, rfl, rfl, by decide +kernel, rfl, by decide +kernel, by decide +kernel⟩
theorem ok_fewest (D : Df K mg "fewest" ["links"] s_fewest) (C1 : Cal P w K mg base CX0 1 "check_links" ["links"] spCheckLinks) (C2 : Cal P w K mg base CX0 1 "longest" ["openings"] spLongest) : Cal P w K mg base CX0 2 "fewest" ["links"] spFewest := by
  have S := sc_fewest
  refine D.ok S (fun vs H Q E h => ?_) (fun f cdv A outer s H vs Q E hr h => ?_)
  · obtain ⟨n, rfl, _⟩ := h
    rfl
  · obtain ⟨links, rfl, h1, h2, q⟩ := h
    refine ⟨_, pss_cons (ps_expr (pe_calf C1 hr rfl (pa_cons (pv 0) pa_nil)))
      (pss_cons (ps_set (i := 1) S.nd rfl (Or.inl rfl) pe_int)
      (pss_cons (ps_while PassesOwn.never (pt_cmpR op_lt (pe_calf C2 hr rfl (pa_cons (pv 1) pa_nil)) (pv 0) (nomark _)) (pss_one (ps_aug (i := 1) S.nd rfl (Or.inl rfl) pe_int ip_add)))
      (pss_one (ps_ret (pv 1))))), ?_⟩
    refine ⟨_, rfl, links, rfl, h1, h2, ?_⟩
    refine ⟨fun m σ H' => H' = H ∧ ∃ n : Nat, σ = [some (.int links), some (.int n)] ∧ n ≤ 93 ∧ (∀ k, k < n → longP k < links) ∧ m = 93 - n, ⟨_, rfl, 0, rfl, by decide, fun k hk => by omega, rfl⟩, ?_⟩
    rintro m σ H' ⟨rfl, n, rfl, hn, hk, rfl⟩
    refine ⟨_, rfl, _, rfl, by omega, by omega, _, rfl, _, _, rfl, rfl, _, rfl, ite2D (fun c => ?_) (fun c => ?_)⟩
    · rw [Int.toNat_natCast] at c
      have hlt : n < 93 := by
        rcases Nat.lt_or_ge n 93 with z | z
        · exact z
        · have e : n = 93 := by omega
          subst e
          have := longP_93
          omega
      refine ⟨fun σ' H'' => H'' = H' ∧ σ' = [some (.int links), some (.int ((n + 1 : Nat) : Int))], ?_, ?_⟩
      · rintro σ' H'' ⟨rfl, rfl⟩
        refine ⟨93 - (n + 1), by omega, rfl, n + 1, rfl, by omega, fun k hk' => ?_, rfl⟩
        by_cases e : k = n
        · subst e; exact c
        · exact hk k (by omega)
      · exact ⟨_, rfl, _, _, rfl, rfl, rfl, rfl⟩
    · rw [Int.toNat_natCast] at c
      exact ⟨_, rfl, q n ⟨hk, by omega⟩⟩
/-! opened_for -/
def spOpenedFor : Sp := fun vs H Q _ => ∃ (links : Int), vs = [.int links] ∧ 1 ≤ links ∧ links ≤ 10 ^ 30 ∧ ∀ (n : Nat) (p : Addr) (H' : Hp), Few links n → Same H H' → H p = none → H' p = some (.lst ((opn links n n).map V.int)) → Q (.ref p) H'
theorem sc_opened_for : FnScope ["links", "openings", "opened", "reach", "place"] ["links"] (defScope s_opened_for) := ⟨rfl, rfl, rfl, by decide +kernel, rfl, by decide +kernel, by decide +kernel⟩
theorem ok_opened_for (D : Df K mg "opened_for" ["links"] s_opened_for) (B : Bl mg) (C1 : Cal P w K mg base CX0 2 "fewest" ["links"] spFewest) : Cal P w K mg base CX0 3 "opened_for" ["links"] spOpenedFor := by
  have S := sc_opened_for
  refine D.ok S (fun vs H Q E h => ?_) (fun f cdv A outer s H vs Q E hr h => ?_)
  · obtain ⟨l, rfl, _⟩ := h
    rfl
  · obtain ⟨links, rfl, h1, h2, q⟩ := h
    refine ⟨_, pss_cons (ps_set (i := 1) S.nd rfl (Or.inl rfl) (pe_calf C1 hr rfl (pa_cons (pv 0) pa_nil)))
      (pss_cons (ps_set (i := 2) S.nd rfl (Or.inl rfl) (pe_lst pa_nil))
      (pss_cons (ps_set (i := 3) S.nd rfl (Or.inl rfl) (pv 1))
      (pss_cons (ps_for PassesOwn.never rfl (pi_range1 rfl B.n_range (pa_cons (pv 1) pa_nil)) (pg_name (i := 4) S.nd rfl (Or.inl rfl))
        (pss_cons (ps_aug (i := 3) S.nd rfl (Or.inl rfl) (pe_callB (call_min2 rfl) rfl B.n_min bb_min (pa_cons (pe_op op_add (pv 3) pe_int) (pa_cons (pe_op op_sub (pv 0) (pv 3)) pa_nil))) ip_add)
        (pss_one (ps_expr (pe_bm PySem.F.plainAttrs_list PySem.F.slot_list_append PySem.F.type_list_append mt_append (pv 2) (pa_cons (pe_op op_add (pe_op op_sub (pv 3) (pv 1)) (pv 4)) pa_nil))))))
      (pss_one (ps_ret (pv 2)))))), ?_⟩
    refine ⟨_, rfl, links, rfl, h1, h2, fun n F => ?_⟩
    have n93 := F.le h2
    refine ⟨by show 0 ≤ sizeLine; decide, fun o ho => ?_⟩
    refine ⟨_, rfl, _, rfl, _, rfl, by omega, by omega, ?_⟩
    refine for_range (lo := 0) (fun i σ H' => ∃ (v4 : Option V), σ = [some (.int links), some (.int n), some (.ref o), some (.int (rch links n i)), v4] ∧ Same H H' ∧ H' o = some (.lst ((opn links n i).map V.int))) ?_ ?_ ?_
    · exact ⟨none, rfl, same_new ho _, upd_same⟩
    · rintro i σ H' hi ⟨v4, rfl, sm, hO⟩
      refine ⟨_, rfl, _, rfl, _, _, rfl, rfl, _, rfl, _, rfl, _, _, rfl, rfl, _, _, rfl, _, _, rfl, rfl, ?_⟩
      refine ⟨_, rfl, .inl ⟨rfl, _, SqL.of hO⟩, _, rfl, _, rfl, _, _, rfl, rfl, _, rfl, _, _, rfl, rfl, o, _, _, rfl, rfl, hO, small1000 (by rw [List.length_map, opn_len]; omega), ?_⟩
      refine ⟨some (.int (0 + (i : Int))), rfl, fun b u z => ?_, ?_⟩
      · rw [upd_ne (ne_of_none z ho)]
        exact sm b u z
      · rw [upd_same, opn, List.map_append]
        rfl
    · rintro σ H' ⟨v4, rfl, sm, hO⟩
      exact ⟨_, rfl, q n o H' F sm ho hO⟩
/-! _law_cell_at -/
def cel (ns : List Int) (k : Int) : Int := ns.getD k.toNat 0
def spCell (K : PySem.W.Frag) : Sp := fun vs H Q _ => ∃ (a : Addr) (ns : List Int) (k : Int), vs = [.ref a, .int k] ∧ SqL K H a (ns.map V.int) ∧ 0 ≤ k ∧ Q (.int (cel ns k)) H
theorem sc__law_cell_at : FnScope ["script", "k"] ["script", "k"] (defScope s__law_cell_at) := ⟨rfl, rfl, rfl, by decide +kernel, rfl, by decide +kernel, by decide +kernel⟩
theorem ok__law_cell_at (D : Df K mg "_law_cell_at" ["script", "k"] s__law_cell_at) (B : Bl mg) : Cal P w K mg base CX0 1 "_law_cell_at" ["script", "k"] (spCell K) := by
  refine D.ok sc__law_cell_at (fun vs H Q E h => ?_) (fun f cdv A outer s H vs Q E hr h => ?_)
  · obtain ⟨a, ns, k, rfl, _⟩ := h
    rfl
  · obtain ⟨a, ns, k, rfl, hS, h0, q⟩ := h
    refine ⟨_, pss_cons (ps_if (pt_cmpR op_lt (pv 1) (pe_callB call_len_seq rfl B.n_len bb_len (pa_cons (pv 0) pa_nil)) (nomark _)) (pss_one (ps_ret (pe_ix ix_list (pv 0) (pv 1) (fun _ _ => rfl)))) pss_nil) (pss_one (ps_ret pe_int)), ?_⟩
    refine ⟨_, rfl, _, rfl, a, _, rfl, .inl hS, _, _, rfl, rfl, _, rfl, ite2D (fun c => ?_) (fun c => ?_)⟩
    · rw [List.length_map] at c
      have hk : k.toNat < ns.length := by omega
      have ek : k = ((k.toNat : Nat) : Int) := by omega
      have q1 : atI (ns.map V.int) ((k.toNat : Nat) : Int) = some (.int ns[k.toNat]) := atI_nat (by rw [List.getElem?_map, List.getElem?_eq_getElem hk]; rfl)
      rw [← ek] at q1
      have q2 : cel ns k = ns[k.toNat] := by
        unfold cel
        rw [List.getD_eq_getElem?_getD, List.getElem?_eq_getElem hk]
        rfl
      rw [q2] at q
      exact ⟨_, rfl, _, rfl, a, _, _, _, rfl, rfl, hS, q1, q⟩
    · rw [List.length_map] at c
      have q2 : cel ns k = 0 := by
        unfold cel
        rw [List.getD_eq_getElem?_getD, List.getElem?_eq_none (by omega)]
        rfl
      rw [q2] at q
      exact q
/-! _law_next -/
def nxt (n : Int) : Int := (n * 48271 + 12345) % 2147483647
def spNext : Sp := fun vs H Q _ => ∃ (n : Int), vs = [.int n] ∧ Q (.int (nxt n)) H
theorem sc__law_next : FnScope ["seed"] ["seed"] (defScope s__law_next) := ⟨rfl, rfl, rfl, by decide +kernel, rfl, by decide +kernel, by decide +kernel⟩
theorem ok__law_next (D : Df K mg "_law_next" ["seed"] s__law_next) : Cal P w K mg base CX0 1 "_law_next" ["seed"] spNext := by
  refine D.ok sc__law_next (fun vs H Q E h => ?_) (fun f cdv A outer s H vs Q E hr h => ?_)
  · obtain ⟨n, rfl, _⟩ := h
    rfl
  · obtain ⟨n, rfl, q⟩ := h
    refine ⟨_, pss_one (ps_ret (pe_op op_mod (pe_op op_add (pe_op op_mul (pv 0) pe_int) pe_int) pe_int)), ?_⟩
    exact ⟨_, rfl, _, _, rfl, rfl, .inr ⟨by decide, by decide⟩, _, _, rfl, rfl, _, _, rfl, rfl, (by show (0 : Int) < 2147483647; decide), q⟩
/-! _law_whole -/
def spWhole : Sp := fun vs H Q _ => ∃ (n : Int), vs = [.int n] ∧ Q (.bl true) H
theorem sc__law_whole : FnScope ["found"] ["found"] (defScope s__law_whole) := ⟨rfl, rfl, rfl, by decide +kernel, rfl, by decide +kernel, by decide +kernel⟩
theorem ok__law_whole (D : Df K mg "_law_whole" ["found"] s__law_whole) (B : Bl mg) : Cal P w K mg base CX0 1 "_law_whole" ["found"] spWhole := by
  refine D.ok sc__law_whole (fun vs H Q E h => ?_) (fun f cdv A outer s H vs Q E hr h => ?_)
  · obtain ⟨n, rfl, _⟩ := h
    rfl
  · obtain ⟨n, rfl, q⟩ := h
    refine ⟨_, pss_one (ps_ret (pe_and (pe_callB call_isinst rfl B.n_isinstance bb_isinstance (pa_cons (pv 0) (pa_cons (pe_bltn (v := .ty "int") rfl B.n_int bb_int rfl) pa_nil)))
      (pe_one (pe_not (pe_callB call_isinst rfl B.n_isinstance bb_isinstance (pa_cons (pv 0) (pa_cons (pe_bltn (v := .ty "bool") rfl B.n_bool bb_bool rfl) pa_nil))))))), ?_⟩
    refine ⟨_, rfl, _, _, _, _, rfl, .int n, kit_int_int, _, rfl, iteT ?_⟩
    exact ⟨_, rfl, _, _, _, _, rfl, .int n, kit_int_bool, _, rfl, q⟩
/-! _law_numbers_like -/
def spLike (K : PySem.W.Frag) : Sp := fun vs H Q _ => ∃ (a b : Addr) (ns : List Int), vs = [.ref a, .ref b] ∧ H a = some (.lst (ns.map V.int)) ∧ H b = some (.lst (ns.map V.int)) ∧ ∀ H', Same H H' → Q (.bl true) H'
theorem sc__law_numbers_like : FnScope ["found", "due", "one", "other"] ["found", "due"] (defScope s__law_numbers_like) := ⟨rfl, rfl, rfl, by decide +kernel, rfl, by decide +kernel, by decide +kernel⟩
theorem ok__law_numbers_like (D : Df K mg "_law_numbers_like" ["found", "due"] s__law_numbers_like) (B : Bl mg) : Cal P w K mg base CX0 1 "_law_numbers_like" ["found", "due"] (spLike K) := by
  have S := sc__law_numbers_like
  refine D.ok S (fun vs H Q E h => ?_) (fun f cdv A outer s H vs Q E hr h => ?_)
  · obtain ⟨a, b, ns, rfl, _⟩ := h
    rfl
  · obtain ⟨a, b, ns, rfl, hA, hB, q⟩ := h
    refine ⟨_, pss_cons (ps_if (pt_or2 (pt_not (pt_val (pe_callB call_isinst rfl B.n_isinstance bb_isinstance (pa_cons (pv 0) (pa_cons (pe_bltn (v := .ty "list") rfl B.n_list bb_list rfl) pa_nil)))))
          (pt_cmpR op_ne (pe_callB call_len_seq rfl B.n_len bb_len (pa_cons (pv 0) pa_nil)) (pe_callB call_len_seq rfl B.n_len bb_len (pa_cons (pv 1) pa_nil)) (nomark _))) (pss_one (ps_ret pe_bl)) pss_nil)
      (pss_cons (ps_for PassesOwn.never rfl (pi_zip rfl B.n_zip (pa_cons (pv 0) (pa_cons (pv 1) pa_nil))) (pg_tup rfl (pgs_cons (pg_name (i := 2) S.nd rfl (Or.inl rfl)) (pgs_cons (pg_name (i := 3) S.nd rfl (Or.inl rfl)) pgs_nil)))
        (pss_one (ps_if (pt_or3 (pt_not (pt_val (pe_callB call_isinst rfl B.n_isinstance bb_isinstance (pa_cons (pv 2) (pa_cons (pe_bltn (v := .ty "int") rfl B.n_int bb_int rfl) pa_nil)))))
          (pt_val (pe_callB call_isinst rfl B.n_isinstance bb_isinstance (pa_cons (pv 2) (pa_cons (pe_bltn (v := .ty "bool") rfl B.n_bool bb_bool rfl) pa_nil))))
          (pt_cmpR op_ne (pv 2) (pv 3) (nomark _))) (pss_one (ps_ret pe_bl)) pss_nil)))
      (pss_one (ps_ret pe_bl))), ?_⟩
    -- a list, as long as the other
    refine ⟨_, rfl, _, _, _, _, rfl, .lst hA, kit_list_list, _, rfl, iteF ?_⟩
    refine ⟨_, rfl, a, _, rfl, .inl (SqL.of hA), _, rfl, b, _, rfl, .inl (SqL.of hB), rfl, _, rfl, ?_⟩
    refine ite2N (fun h => absurd rfl h) fun _ => ?_
    refine ⟨_, rfl, _, rfl, a, b, _, _, rfl, hA, hB, ?_⟩
    refine for_zip (a := a) (b := b) (xs := ns.map V.int) (ys := ns.map V.int) rfl (fun i σ H' => ∃ v2 v3, σ = [some (.ref a), some (.ref b), v2, v3] ∧ Same H H') ?_ ?_ ?_ ?_
    · exact ⟨none, none, rfl, fun _ _ e => e⟩
    · rintro i σ H' _ ⟨v2, v3, rfl, sm⟩
      exact ⟨sm _ _ hA, sm _ _ hB⟩
    · rintro i x y p σ H' hx hy ⟨v2, v3, rfl, sm⟩ hp
      rw [hx] at hy
      cases hy
      obtain ⟨z, rfl, hz⟩ := map_get hx
      refine ⟨p, _, rfl, SqT.of upd_same, rfl, _, _, rfl, _, _, rfl, rfl, ?_⟩
      refine ⟨_, rfl, _, _, _, _, rfl, .int z, kit_int_int, _, rfl, iteF ?_⟩
      refine ⟨_, rfl, _, _, _, _, rfl, .int z, kit_int_bool, _, rfl, iteF ?_⟩
      refine ⟨_, rfl, _, rfl, rfl, _, rfl, ?_⟩
      refine ite2N (fun h => absurd rfl h) fun _ => ?_
      exact ⟨_, _, rfl, sm.trans (same_new hp _)⟩
    · rintro σ H' ⟨v2, v3, rfl, sm⟩
      exact q H' sm
/-! _law_pieces -/
def spLPieces : Sp := fun vs H Q _ => ∃ (links : Int) (a : Addr) (os : List Int), vs = [.int links, .ref a] ∧ H a = some (.lst (os.map V.int)) ∧ RowOk links os 100 ∧
  ∀ (p : Addr) (vs' : List V) (H' : Hp), H p = none → Grow H H' p vs' (piecesP links os) → Q (.ref p) H'
theorem sc__law_pieces : FnScope ["links", "opened", "found", "begin", "link"] ["links", "opened"] (defScope s__law_pieces) := ⟨rfl, rfl, rfl, by decide +kernel, rfl, by decide +kernel, by decide +kernel⟩
theorem ok__law_pieces (D : Df K mg "_law_pieces" ["links", "opened"] s__law_pieces) : Cal P w K mg base CX0 1 "_law_pieces" ["links", "opened"] spLPieces := by
  have S := sc__law_pieces
  refine D.ok S (fun vs H Q E h => ?_) (fun f cdv A outer s H vs Q E hr h => ?_)
  · obtain ⟨l, a, os, rfl, _⟩ := h
    rfl
  · obtain ⟨links, a, os, rfl, hA, R, q⟩ := h
    refine ⟨_, pss_cons (ps_set (i := 2) S.nd rfl (Or.inl rfl) (pe_lst pa_nil))
      (pss_cons (ps_set (i := 3) S.nd rfl (Or.inl rfl) pe_int)
      (pss_cons (ps_for PassesOwn.never rfl (pi_list (pe_op op_cat (pv 1) (pe_lst (pa_cons (pv 0) pa_nil)))) (pg_name (i := 4) S.nd rfl (Or.inl rfl))
        (pss_cons (ps_cut (ps_if (pt_cmpR op_gt (pv 4) (pv 3) (nomark _))
            (pss_one (ps_expr (pe_bm PySem.F.plainAttrs_list PySem.F.slot_list_append PySem.F.type_list_append mt_append (pv 2) (pa_cons (pe_tup (pa_cons (pv 3) (pa_cons (pe_op op_sub (pv 4) (pv 3)) pa_nil))) pa_nil)))) pss_nil))
        (pss_cons (ps_cut (ps_if (pt_cmpR op_lt (pv 4) (pv 0) (nomark _))
            (pss_one (ps_expr (pe_bm PySem.F.plainAttrs_list PySem.F.slot_list_append PySem.F.type_list_append mt_append (pv 2) (pa_cons (pe_tup (pa_cons (pv 4) (pa_cons pe_int pa_nil))) pa_nil)))) pss_nil))
        (pss_one (ps_set (i := 3) S.nd rfl (Or.inl rfl) (pe_op op_add (pv 4) pe_int))))))
      (pss_one (ps_ret (pv 2))))), ?_⟩
    have big : ∀ n : Nat, n ≤ 1000 → n < sizeLine := fun n h => small1000 h
    have hln := R.len
    refine ⟨by show 0 ≤ sizeLine; decide, fun l hl => ?_⟩
    -- opened + [links]
    refine ⟨_, rfl, _, rfl, (by show 1 ≤ sizeLine; decide), fun b hb => ?_⟩
    have hA1 : (upd (upd H l (.lst [])) b (.lst [V.int links])) a = some (.lst (os.map V.int)) := same_new hb _ _ _ (same_new hl _ _ _ hA)
    refine ⟨a, b, _, _, rfl, rfl, hA1, upd_same, (by rw [List.length_map]; show _ + 1 ≤ sizeLine; exact big _ (by omega)), fun c hc => ?_⟩
    have ec : (os.map V.int) ++ [V.int links] = (os ++ [links]).map V.int := by rw [List.map_append]; rfl
    rw [ec]
    refine ⟨c, rfl, ⟨_, SqL.of upd_same⟩, ?_⟩
    have sL : Same H (upd (upd (upd H l (.lst [])) b (.lst [V.int links])) c (.lst ((os ++ [links]).map V.int))) := ((same_new hl _).trans (same_new hb _)).trans (same_new hc _)
    have hlc : l ≠ c := ne_of_none (same_new hb _ _ _ upd_same) hc
    have hlb : l ≠ b := ne_of_none upd_same hb
    refine for_list (K := K) (a := c) (xs := (os ++ [links]).map V.int) (fun i σ H' => ∃ (ws : List V) (v : Option V),
      σ = [some (.int links), some (.ref a), some (.ref l), some (.int (((os ++ [links]).take i).foldl (stepL links) ([], 0)).2), v] ∧ Grow H H' l ws (((os ++ [links]).take i).foldl (stepL links) ([], 0)).1 ∧
        H' c = some (.lst ((os ++ [links]).map V.int))) ?_ ?_ ?_ ?_
    · refine ⟨[], none, rfl, ⟨sL, ?_, .nil⟩, upd_same⟩
      rw [upd_ne hlc, upd_ne hlb]
      exact upd_same
    · rintro i σ H' _ ⟨ws, v, rfl, G, hC⟩
      exact SqL.of hC
    · rintro i x σ H1 hi ⟨ws, v, rfl, G, hC⟩
      obtain ⟨z, rfl, hz⟩ := map_get hi
      have hlen : (((os ++ [links]).take i).foldl (stepL links) ([], 0)).1.length ≤ 202 := by
        have h1 := foldL_len links ((os ++ [links]).take i) ([], 0)
        have h3 : ((os ++ [links]).take i).length ≤ os.length + 1 := by rw [List.length_take, List.length_append]; simp; omega
        simp only [List.length_nil] at h1
        omega
      have ef := fold_take (stepL links) (([], 0) : List (Int × Int) × Int) hz
      generalize ((os ++ [links]).take i).foldl (stepL links) ([], 0) = st at *
      refine ⟨fun σ2 H2 => ∃ (ws : List V), σ2 = [some (.int links), some (.ref a), some (.ref l), some (.int st.2), some (.int z)] ∧
        Grow H H2 l ws (st.1 ++ if st.2 < z then [(st.2, z - st.2)] else []) ∧ H2 c = some (.lst ((os ++ [links]).map V.int)), ?_, ?_⟩
      · refine ⟨_, rfl, _, rfl, _, _, rfl, rfl, _, rfl, ite2D (fun k => ?_) (fun k => ?_)⟩
        · refine ⟨_, rfl, .inl ⟨rfl, _, SqL.of G.at_⟩, _, rfl, _, rfl, _, rfl, _, _, rfl, rfl, (by show 2 ≤ sizeLine; decide), fun t ht => ?_⟩
          refine ⟨l, _, _, rfl, rfl, (G.tup ht).at_, big _ (by have := G.tups.length; omega), ?_⟩
          refine ⟨ws ++ [.ref t], rfl, ?_, ?_⟩
          · rw [if_pos k]
            exact G.push hl ht
          · rw [upd_ne hlc.symm]
            exact same_new ht _ _ _ hC
        · refine ⟨ws, rfl, ?_, hC⟩
          rw [if_neg k, List.append_nil]
          exact G
      rintro σ2 H2 ⟨ws2, rfl, G2, hC2⟩
      have hlen2 : ws2.length ≤ 203 := by
        rw [G2.tups.length, List.length_append]
        split <;> simp <;> omega
      refine ⟨fun σ3 H3 => ∃ (ws : List V), σ3 = [some (.int links), some (.ref a), some (.ref l), some (.int st.2), some (.int z)] ∧
        Grow H H3 l ws (stepL links st z).1 ∧ H3 c = some (.lst ((os ++ [links]).map V.int)), ?_, ?_⟩
      · refine ⟨_, rfl, _, rfl, _, _, rfl, rfl, _, rfl, ite2D (fun k => ?_) (fun k => ?_)⟩
        · refine ⟨_, rfl, .inl ⟨rfl, _, SqL.of G2.at_⟩, _, rfl, (by show 2 ≤ sizeLine; decide), fun t ht => ?_⟩
          refine ⟨l, _, _, rfl, rfl, (G2.tup ht).at_, big _ (by omega), ?_⟩
          refine ⟨ws2 ++ [.ref t], rfl, ?_, ?_⟩
          · show Grow _ _ _ _ ((st.1 ++ if st.2 < z then [(st.2, z - st.2)] else []) ++ (if z < links then [(z, 1)] else []))
            rw [if_pos k]
            exact G2.push hl ht
          · rw [upd_ne hlc.symm]
            exact same_new ht _ _ _ hC2
        · refine ⟨ws2, rfl, ?_, hC2⟩
          show Grow _ _ _ _ ((st.1 ++ if st.2 < z then [(st.2, z - st.2)] else []) ++ (if z < links then [(z, 1)] else []))
          rw [if_neg k, List.append_nil]
          exact G2
      · rintro σ3 H3 ⟨ws3, rfl, G3, hC3⟩
        refine ⟨_, rfl, _, _, rfl, rfl, ws3, some (.int z), ?_, ?_, hC3⟩
        · rw [ef]
          rfl
        · rw [ef]
          exact G3
    · rintro σ H1 ⟨ws, v, rfl, G, hC⟩
      rw [List.length_map, List.take_length] at G
      refine ⟨_, rfl, q l ws H1 hl ?_⟩
      have ep := piecesL_eq (links := links) (os := os) fun x hx => (R.rng x hx).2
      rw [← ep]
      exact G
/-! _law_longest -/
def spLLongest : Sp := fun vs H Q _ => ∃ n : Int, vs = [.int n] ∧ 0 ≤ n ∧ n ≤ 1000 ∧ Q (.int (longP n.toNat)) H
theorem sc__law_longest : FnScope ["openings", "found", "k"] ["openings"] (defScope s__law_longest) := ⟨rfl, rfl, rfl, by decide +kernel, rfl, by decide +kernel, by decide +kernel⟩
theorem ok__law_longest (D : Df K mg "_law_longest" ["openings"] s__law_longest) (B : Bl mg) : Cal P w K mg base CX0 1 "_law_longest" ["openings"] spLLongest := by
  have S := sc__law_longest
  refine D.ok S (fun vs H Q E h => ?_) (fun f cdv A outer s H vs Q E hr h => ?_)
  · obtain ⟨n, rfl, _⟩ := h
    rfl
  · obtain ⟨n, rfl, h0, h1, q⟩ := h
    refine ⟨_, pss_cons (ps_set (i := 1) S.nd rfl (Or.inl rfl) (pe_op op_add (pv 0) pe_int))
      (pss_cons (ps_for PassesOwn.never rfl (pi_range1 rfl B.n_range (pa_cons (pe_op op_add (pv 0) pe_int) pa_nil)) (pg_name (i := 2) S.nd rfl (Or.inl rfl))
        (pss_one (ps_set (i := 1) S.nd rfl (Or.inl rfl) (pe_op op_mul (pv 1) pe_int))))
      (pss_one (ps_ret (pe_op op_sub (pv 1) pe_int)))), ?_⟩
    refine ⟨_, rfl, _, _, rfl, rfl, _, rfl, _, _, rfl, rfl, _, rfl, (by omega), (by omega), ?_⟩
    refine for_range (lo := 0) (fun i σ H' => H' = H ∧ ∃ v : Option V, σ = [some (.int n), some (.int (dbl (n + 1) i)), v]) ?_ ?_ ?_
    · exact ⟨rfl, none, by rw [dbl_zero]; rfl⟩
    · rintro i σ H' hi ⟨rfl, v, rfl⟩
      refine ⟨_, rfl, _, _, rfl, rfl, .inr ⟨by decide, by decide⟩, rfl, some (.int (0 + (i : Int))), ?_⟩
      rw [← dbl_succ]
      rfl
    · rintro σ H' ⟨rfl, v, rfl⟩
      refine ⟨_, rfl, _, _, rfl, rfl, ?_⟩
      show Q (.int (dbl (n + 1) (n + 1).toNat - 1)) H'
      rw [dbl_long h0]
      exact q
/-! _law_right -/
theorem rise_dd {hs ss : List Int} (pm : ss.Perm (ded hs)) (so : ss.Pairwise (· ≤ ·)) (h : hs.Pairwise (· < ·)) : ss = hs := by
  have nd : hs.Nodup := h.imp fun z => Int.ne_of_lt z
  rw [ded_of nd] at pm
  exact List.Perm.eq_of_pairwise (le := (· ≤ ·)) (fun a b _ _ h1 h2 => Int.le_antisymm h1 h2) so (h.imp fun z => Int.le_of_lt z) pm
def spRight : Sp := fun vs H Q _ => ∃ (links : Int) (fo : Addr) (os : List Int), vs = [.ref fo, .int links, .int os.length] ∧ H fo = some (.lst (os.map V.int)) ∧ RowOk links os 100 ∧ (∀ ys : List Int, ys.Perm (sizesP links os) → ys.Pairwise (· ≤ ·) → gapOf 0 ys = none) ∧ ∀ H', Same H H' → Q (.bl true) H'
theorem sc__law_right : FnScope ["found", "links", "openings", "reach", "size"] ["found", "links", "openings"] (defScope s__law_right) := ⟨rfl, rfl, rfl, by decide +kernel, rfl, by decide +kernel, by decide +kernel⟩
theorem ok__law_right (D : Df K mg "_law_right" ["found", "links", "openings"] s__law_right) (B : Bl mg) (C1 : Cal P w K mg base CX0 1 "_law_numbers_like" ["found", "due"] (spLike K)) (C2 : Cal P w K mg base CX0 1 "_law_pieces" ["links", "opened"] spLPieces) :
    Cal P w K mg base CX0 2 "_law_right" ["found", "links", "openings"] spRight := by
  have S := sc__law_right
  refine D.ok S (fun vs H Q E h => ?_) (fun f cdv A outer s H vs Q E hr h => ?_)
  · obtain ⟨_, _, _, rfl, _⟩ := h
    rfl
  · obtain ⟨links, fo, os, rfl, hF, R, full, q⟩ := h
    refine ⟨_, pss_cons (ps_if (pt_or3 (pt_not (pt_val (pe_callB call_isinst rfl B.n_isinstance bb_isinstance (pa_cons (pv 0) (pa_cons (pe_bltn (v := .ty "list") rfl B.n_list bb_list rfl) pa_nil)))))
        (pt_cmpR op_ne (pe_callB call_len_seq rfl B.n_len bb_len (pa_cons (pv 0) pa_nil)) (pv 2) (nomark _))
        (pt_not (pt_val (pe_calf C1 hr rfl (pa_cons (pv 0) (pa_cons (pe_callB (call_sortedSetN rfl) rfl B.n_sorted bb_sorted (pa_cons (pe_callTy (call_setOf rfl) rfl B.n_set bb_set (pa_cons (pv 0) pa_nil)) pa_nil)) pa_nil)))))) (pss_one (ps_ret pe_bl)) pss_nil)
      (pss_cons (ps_cut (ps_if (pt_and2 (pt_cmpR op_gt (pe_callB call_len_seq rfl B.n_len bb_len (pa_cons (pv 0) pa_nil)) pe_int (nomark _))
          (pt_or2 (pt_cmpR op_lt (pe_ix ix_list (pv 0) pe_int (fun _ _ => rfl)) pe_int (nomark _)) (pt_cmpR op_ge (pe_ix ix_list (pv 0) (pe_un un_neg pe_int) (fun _ _ => rfl)) (pv 1) (nomark _)))) (pss_one (ps_ret pe_bl)) pss_nil))
      (pss_cons (ps_set (i := 3) S.nd rfl (Or.inl rfl) pe_int)
      (pss_cons (ps_for PassesOwn.never rfl (pi_list (pe_callB call_sortedN rfl B.n_sorted bb_sorted (pa_cons (pe_lcomp (N := ["piece"]) (BlkS.plain rfl (by decide +kernel) (by decide +kernel)) rfl (pi_list (pe_calf C2 hr rfl (pa_cons (pv 1) (pa_cons (pv 0) pa_nil))))
          (fun _ _ _ _ _ => pg_name (i := 0) (nd_one _) rfl (Or.inl rfl)) (fun _ _ _ _ _ => pts_nil) (fun _ _ _ _ _ => pe_ix (ix_tupK K rfl) (pv 0) pe_int (fun _ _ => rfl))) pa_nil))) (pg_name (i := 4) S.nd rfl (Or.inl rfl))
        (pss_cons (ps_if (pt_cmpR op_gt (pv 4) (pe_op op_add (pv 3) pe_int) (nomark _)) (pss_one (ps_ret pe_bl)) pss_nil)
        (pss_one (ps_set (i := 3) S.nd rfl (Or.inl rfl) (pe_op op_add (pv 3) (pv 4))))))
      (pss_one (ps_ret (pe_cmpR op_eq (pv 3) (pv 1) (nomark _))))))), ?_⟩
    have hlen := R.len
    have hdd := ded_len os
    refine ⟨_, rfl, _, _, _, _, rfl, .lst hF, kit_list_list, _, rfl, iteF ?_⟩
    refine ⟨_, rfl, fo, _, rfl, .inl (SqL.of hF), _, rfl, rfl, _, rfl, ?_⟩
    refine ite2N (fun h => absurd (by rw [List.length_map]) h) fun _ => ?_
    refine ⟨_, rfl, _, rfl, fo, os, rfl, SqL.of hF, by omega, fun st hst => ?_⟩
    refine ⟨st, _, rfl, upd_same, by omega, fun so ss hso pm srt => ?_⟩
    obtain rfl := rise_dd pm srt R.inc
    have sx : Same H _ := (same_new hst _).trans (same_new hso (.lst (ss.map V.int)))
    refine ⟨fo, so, ss, rfl, sx _ _ hF, upd_same, fun H2 s2 => ⟨_, rfl, iteF ?_⟩⟩
    have s3 := sx.trans s2
    have hF2 := s3 _ _ hF
    refine ⟨fun σ' H' => H' = H2 ∧ σ' = [some (.ref fo), some (.int links), some (.int ss.length), none, none], ?_, ?_⟩
    · refine ⟨_, rfl, fo, _, rfl, .inl (SqL.of hF2), _, _, rfl, rfl, _, rfl, ite2D (fun c => ?_) (fun c => ⟨rfl, rfl⟩)⟩
      rw [List.length_map] at c
      have hne : ss ≠ [] := fun z => by rw [z] at c; exact absurd c (by decide)
      obtain ⟨x, hx⟩ : ∃ x, ss[0]? = some x := by
        cases ss with
        | nil => exact absurd rfl hne
        | cons x r => exact ⟨x, rfl⟩
      have h0 : atI (ss.map V.int) 0 = some (.int x) := atI_nat (j := 0) (by rw [List.getElem?_map, hx]; rfl)
      obtain ⟨ys, y, ey⟩ : ∃ ys y, ss = ys ++ [y] := ⟨_, _, (List.dropLast_concat_getLast hne).symm⟩
      have h9 : atI (ss.map V.int) (-1) = some (.int y) := by rw [ey]; exact atI_lastI ys y
      have rx := R.rng x (List.mem_of_getElem? hx)
      have ry := R.rng y (by rw [ey]; simp)
      refine ⟨_, rfl, fo, _, _, .int x, rfl, rfl, SqL.of hF2, h0, _, _, rfl, rfl, _, rfl, iteDn (by omega) ?_⟩
      refine ⟨_, rfl, _, rfl, fo, _, _, .int y, rfl, rfl, SqL.of hF2, h9, _, rfl, _, _, rfl, rfl, _, rfl, iteDn (by omega) ⟨rfl, rfl⟩⟩
    rintro σ' H' ⟨rfl, rfl⟩
    obtain ⟨hsum, _⟩ := sizes_facts R
    refine ⟨_, rfl, _, rfl, links, fo, ss, rfl, hF2, R, fun lp ps H3 hlp G => ?_⟩
    refine ⟨lp, rfl, ⟨_, SqL.of G.at_⟩, fun D hD => ⟨_, FromOuter.none, ?_⟩⟩
    refine lc_sizes hlp G hD (by have := piecesP_len links ss; omega) fun H4 s4 hD4 => ?_
    refine ⟨D, sizesP links ss, rfl, SqL.of hD4, (by have := sizes_len (links := links) (os := ss); omega), fun l ys hl pm so => ?_⟩
    have s5 := s3.trans (s4.trans (same_new hl (.lst (ys.map V.int))))
    have hfull := full ys pm so
    have hs2 : ys.sum = links := (sum_perm pm).trans hsum
    refine ⟨l, rfl, ⟨_, SqL.of upd_same⟩, ?_⟩
    refine for_list (K := K) (a := l) (xs := ys.map V.int) (fun i σ H' => H' = upd H4 l (.lst (ys.map V.int)) ∧ ∃ (r : Int) (v : Option V), σ = [some (.ref fo), some (.int links), some (.int ss.length), some (.int r), v] ∧ gapOf r (ys.drop i) = none ∧ r + (ys.drop i).sum = links) ?_ ?_ ?_ ?_
    · exact ⟨rfl, 0, none, rfl, hfull, by rw [List.drop_zero, hs2, Int.zero_add]⟩
    · rintro i σ H' _ ⟨rfl, _⟩
      exact SqL.of upd_same
    · rintro i x σ H' hi ⟨rfl, r, v, rfl, hg, hr2⟩
      obtain ⟨z, rfl, hz⟩ := map_get hi
      obtain ⟨hlt, ez⟩ := List.getElem?_eq_some_iff.mp hz
      have ed : ys.drop i = z :: ys.drop (i + 1) := by rw [List.drop_eq_getElem_cons hlt, ez]
      rw [ed, gapOf] at hg
      rw [ed, List.sum_cons] at hr2
      have c : ¬ r + 1 < z := fun c => by rw [if_pos c] at hg; cases hg
      rw [if_neg c] at hg
      refine ⟨_, rfl, _, rfl, _, _, rfl, rfl, _, _, rfl, rfl, _, rfl, iteDn c ?_⟩
      exact ⟨_, rfl, _, rfl, _, _, rfl, rfl, rfl, _, _, rfl, hg, by omega⟩
    · rintro σ H' ⟨rfl, r, v, rfl, hg, hr2⟩
      rw [List.length_map, List.drop_length, List.sum_nil, Int.add_zero] at hr2
      subst hr2
      refine ⟨_, rfl, _, rfl, rfl, ?_⟩
      rw [show decide (V.int r = V.int r) = true from decide_eq_true rfl]
      exact q _ s5
/-! _law_gap -/
def spLGap : Sp := fun vs H Q _ => ∃ (links : Int) (a : Addr) (os : List Int), vs = [.int links, .ref a] ∧ H a = some (.lst (os.map V.int)) ∧ RowOk links os 100 ∧
  ∀ (ys : List Int) (H' : Hp), Same H H' → ys.Perm (sizesP links os) → ys.Pairwise (· ≤ ·) → Q (gapV (gapOf 0 ys)) H'
theorem sc__law_gap : FnScope ["links", "opened", "reach", "size"] ["links", "opened"] (defScope s__law_gap) := ⟨rfl, rfl, rfl, by decide +kernel, rfl, by decide +kernel, by decide +kernel⟩
theorem ok__law_gap (D : Df K mg "_law_gap" ["links", "opened"] s__law_gap) (B : Bl mg) (C1 : Cal P w K mg base CX0 1 "_law_pieces" ["links", "opened"] spLPieces) : Cal P w K mg base CX0 2 "_law_gap" ["links", "opened"] spLGap := by
  have S := sc__law_gap
  refine D.ok S (fun vs H Q E h => ?_) (fun f cdv A outer s H vs Q E hr h => ?_)
  · obtain ⟨l, a, os, rfl, _⟩ := h
    rfl
  · obtain ⟨links, a, os, rfl, hA, R, q⟩ := h
    refine ⟨_, pss_cons (ps_set (i := 2) S.nd rfl (Or.inl rfl) pe_int)
      (pss_cons (ps_for PassesOwn.never rfl (pi_list (pe_callB call_sortedN rfl B.n_sorted bb_sorted (pa_cons (pe_lcomp (N := ["piece"]) (BlkS.plain rfl (by decide +kernel) (by decide +kernel)) rfl (pi_list (pe_calf C1 hr rfl (pa_cons (pv 0) (pa_cons (pv 1) pa_nil))))
          (fun _ _ _ _ _ => pg_name (i := 0) (nd_one _) rfl (Or.inl rfl)) (fun _ _ _ _ _ => pts_nil) (fun _ _ _ _ _ => pe_ix (ix_tupK K rfl) (pv 0) pe_int (fun _ _ => rfl))) pa_nil))) (pg_name (i := 3) S.nd rfl (Or.inl rfl))
        (pss_cons (ps_if (pt_cmpR op_gt (pv 3) (pe_op op_add (pv 2) pe_int) (nomark _)) (pss_one (ps_ret (pe_op op_add (pv 2) pe_int))) pss_nil)
        (pss_one (ps_set (i := 2) S.nd rfl (Or.inl rfl) (pe_op op_add (pv 2) (pv 3))))))
      (pss_one (ps_ret pe_non))), ?_⟩
    have hlen := R.len
    refine ⟨_, rfl, _, rfl, links, a, os, rfl, hA, R, fun lp ps H1 hlp G => ?_⟩
    refine ⟨lp, rfl, ⟨_, SqL.of G.at_⟩, fun D hD => ⟨_, FromOuter.none, ?_⟩⟩
    refine lc_sizes hlp G hD (by have := piecesP_len links os; omega) fun H2 s2 hD2 => ?_
    refine ⟨D, sizesP links os, rfl, SqL.of hD2, (by have := sizes_len (links := links) (os := os); omega), fun l ys hl pm so => ?_⟩
    have s3 : Same H (upd H2 l (.lst (ys.map V.int))) := s2.trans (same_new hl _)
    refine ⟨l, rfl, ⟨_, SqL.of upd_same⟩, ?_⟩
    refine for_list (K := K) (a := l) (xs := ys.map V.int) (fun i σ H' => H' = upd H2 l (.lst (ys.map V.int)) ∧ ∃ (r : Int) (v : Option V), σ = [some (.int links), some (.ref a), some (.int r), v] ∧ gapOf 0 ys = gapOf r (ys.drop i)) ?_ ?_ ?_ ?_
    · exact ⟨rfl, 0, none, rfl, rfl⟩
    · rintro i σ H' _ ⟨rfl, _⟩
      exact SqL.of upd_same
    · rintro i x σ H' hi ⟨rfl, r, v, rfl, hg⟩
      obtain ⟨z, rfl, hz⟩ := map_get hi
      obtain ⟨hlt, ez⟩ := List.getElem?_eq_some_iff.mp hz
      have ed : ys.drop i = z :: ys.drop (i + 1) := by rw [List.drop_eq_getElem_cons hlt, ez]
      rw [ed, gapOf] at hg
      refine ⟨_, rfl, _, rfl, _, _, rfl, rfl, _, _, rfl, rfl, _, rfl, ite2D (fun c => ?_) (fun c => ?_)⟩
      · rw [if_pos c] at hg
        refine ⟨_, rfl, _, _, rfl, rfl, ?_⟩
        have := q ys _ s3 pm so
        rw [hg] at this
        exact this
      · rw [if_neg c] at hg
        exact ⟨_, rfl, _, rfl, _, _, rfl, rfl, rfl, _, _, rfl, hg⟩
    · rintro σ H' ⟨rfl, r, v, rfl, hg⟩
      rw [List.length_map, List.drop_length] at hg
      have := q ys _ s3 pm so
      rw [hg] at this
      exact this
/-! _law_turned -/
theorem cut_take (os : List Int) {k : Nat} (h : k ≤ os.length) : cutV (os.map V.int) none (some (k : Int)) = (os.take k).map V.int := by
  unfold cutV
  rw [HT.sIx_none, HT.sIx_nat, List.drop_zero, List.length_map, Nat.min_eq_left h, Nat.sub_zero, List.map_take]
theorem cut_drop (os : List Int) {k : Nat} (h : k ≤ os.length) : cutV (os.map V.int) (some (k : Int)) none = (os.drop k).map V.int := by
  unfold cutV
  rw [HT.sIx_none, HT.sIx_nat, List.length_map, Nat.min_eq_left h, ← List.map_drop, List.take_of_length_le (by rw [List.length_map, List.length_drop]; exact Nat.le_refl _)]
theorem pt_or4 {X : Cx} {a b c d : Expr} {ta tb tc td : TT} {pos : Pos} (ha : PT X a ta) (hb : PT X b tb) (hc : PT X c tc) (hd : PT X d td) : PT X (.BoolOp .Or [a, b, c, d] pos) (tOr ta (tOr tb (tOr tc td))) := (pw_or ha (pw_or hb (pw_or hc (pw_or1 hd)))).pt
theorem one_out (os : List Int) (k : Nat) : (os.take k ++ os.drop (k + 1)).Sublist os := by
  have h : (os.take k ++ os.drop (k + 1)).Sublist (os.take k ++ os.drop k) := by
    refine (List.Sublist.refl _).append ?_
    rw [← List.drop_drop]
    exact List.drop_sublist _ _
  rwa [List.take_append_drop] at h
def spTurned (K : PySem.W.Frag) : Sp := fun vs H Q _ => ∃ (a o : Addr) (ns os : List Int) (links : Int), vs = [.ref a, .int links, .ref o] ∧ SqL K H a (ns.map V.int) ∧ H o = some (.lst (os.map V.int)) ∧ RowOk links os 93 ∧
  ∀ (p : Addr) (os' : List Int) (H' : Hp), Same H H' → H' p = some (.lst (os'.map V.int)) → RowOk links os' 93 → Q (.ref p) H'
theorem sc__law_turned : FnScope ["script", "links", "opened", "at", "rest", "link"] ["script", "links", "opened"] (defScope s__law_turned) := ⟨rfl, rfl, rfl, by decide +kernel, rfl, by decide +kernel, by decide +kernel⟩
set_option maxHeartbeats 0 in
theorem ok__law_turned (D : Df K mg "_law_turned" ["script", "links", "opened"] s__law_turned) (B : Bl mg) (C1 : Cal P w K mg base CX0 1 "_law_cell_at" ["script", "k"] (spCell K)) : Cal P w K mg base CX0 2 "_law_turned" ["script", "links", "opened"] (spTurned K) := by
  have S := sc__law_turned
  refine D.ok S (fun vs H Q E h => ?_) (fun f cdv A outer s H vs Q E hr h => ?_)
  · obtain ⟨_, _, _, _, _, rfl, _⟩ := h
    rfl
  · obtain ⟨a, o, ns, os, links, rfl, hS, hO, R, q⟩ := h
    refine ⟨_, pss_cons (ps_if (pt_cmpR op_eq (pe_callB call_len_seq rfl B.n_len bb_len (pa_cons (pv 2) pa_nil)) pe_int (nomark _)) (pss_one (ps_ret (pv 2))) pss_nil)
      (pss_cons (ps_set (i := 3) S.nd rfl (Or.inl rfl) (pe_op op_mod (pe_calf C1 hr rfl (pa_cons (pv 0) (pa_cons pe_int pa_nil))) (pe_callB call_len_seq rfl B.n_len bb_len (pa_cons (pv 2) pa_nil))))
      (pss_cons (ps_set (i := 4) S.nd rfl (Or.inl rfl) (pe_op op_cat (pe_slice sl_list (pv 2) po_none (po_some (pv 3))) (pe_slice sl_list (pv 2) (po_some (pe_op op_add (pv 3) pe_int)) po_none)))
      (pss_cons (ps_set (i := 5) S.nd rfl (Or.inl rfl) (pe_ix ix_list (pe_lst (pa_cons (pe_op op_add (pe_ix ix_list (pv 2) (pv 3) (fun _ _ => rfl)) pe_int) (pa_cons (pe_op op_sub (pe_ix ix_list (pv 2) (pv 3) (fun _ _ => rfl)) pe_int) (pa_cons (pe_op op_mod (pe_calf C1 hr rfl (pa_cons (pv 0) (pa_cons pe_int pa_nil))) (pv 1)) pa_nil))))
          (pe_op op_mod (pe_op op_fdiv (pe_calf C1 hr rfl (pa_cons (pv 0) (pa_cons pe_int pa_nil))) pe_int) pe_int) (fun _ _ => rfl)))
      (pss_cons (ps_if (pt_or4 (pt_cmpR op_eq (pe_op op_mod (pe_calf C1 hr rfl (pa_cons (pv 0) (pa_cons pe_int pa_nil))) pe_int) pe_int (nomark _)) (pt_cmpR op_lt (pv 5) pe_int (nomark _)) (pt_cmpR op_ge (pv 5) (pv 1) (nomark _)) (pt_cmpR op_in_ints (pv 5) (pv 4) (by with_unfolding_all rfl))) (pss_one (ps_ret (pv 4))) pss_nil)
      (pss_one (ps_ret (pe_callB call_sortedN rfl B.n_sorted bb_sorted (pa_cons (pe_op op_cat (pv 4) (pe_lst (pa_cons (pv 5) pa_nil))) pa_nil)))))))), ?_⟩
    have e16 : sizeLine = 16777216 := PySem.sizeLine_eq
    have hlo := R.lo
    have hlen := R.len
    refine ⟨_, rfl, o, _, rfl, .inl (SqL.of hO), rfl, _, rfl, ite2D (fun c => ?_) (fun c => ?_)⟩
    · exact ⟨_, rfl, q o os H (fun _ _ z => z) hO R⟩
    have hpos : 0 < os.length := by
      rcases Nat.eq_zero_or_pos os.length with z | z
      · exact absurd (by rw [List.length_map, z]; rfl) c
      · exact z
    refine ⟨_, rfl, a, ns, 4, rfl, hS, by decide, _, rfl, o, _, rfl, .inl (SqL.of hO), _, _, rfl, rfl, (by rw [List.length_map]; omega), ?_⟩
    have t0 := Int.emod_nonneg (cel ns 4) (show ((List.map V.int os).length : Int) ≠ 0 by rw [List.length_map]; omega)
    have t1 := Int.emod_lt_of_pos (cel ns 4) (show (0 : Int) < ((List.map V.int os).length : Int) by rw [List.length_map]; omega)
    obtain ⟨k, hk⟩ : ∃ k : Nat, cel ns 4 % ((List.map V.int os).length : Int) = (k : Int) := ⟨(cel ns 4 % ((List.map V.int os).length : Int)).toNat, by omega⟩
    rw [hk, List.length_map] at t1
    have hvt : (V.int (cel ns 4 % ((List.map V.int os).length : Int))) = .int (k : Int) := congrArg V.int hk
    have hvt2 : (V.int (cel ns 4 % ((List.map V.int os).length : Int) + 1)) = .int ((k + 1 : Nat) : Int) := congrArg V.int (by rw [hk]; rfl)
    have hk1 : k < os.length := by omega
    have ee1 := cut_take os (Nat.le_of_lt hk1)
    have ee2 := cut_drop os (k := k + 1) hk1
    obtain ⟨rest, hrest⟩ : ∃ rest, os.take k ++ os.drop (k + 1) = rest := ⟨_, rfl⟩
    have sub : rest.Sublist os := by rw [← hrest]; exact one_out os k
    have lrest : rest.length ≤ 92 := by
      rw [← hrest, List.length_append, List.length_take, List.length_drop]
      omega
    have hx : atI (os.map V.int) (k : Int) = some (.int os[k]) := atI_nat (xs := os.map V.int) (j := k) (v := .int os[k]) (by rw [List.getElem?_map, List.getElem?_eq_getElem hk1]; rfl)
    generalize os[k] = x at hx
    have Rr : RowOk links rest 93 := ⟨R.lo, R.hi, R.inc.sublist sub, fun y hy => R.rng y (sub.subset hy), by omega⟩
    -- rest
    refine ⟨_, rfl, _, rfl, (k : Int), hvt, o, _, rfl, SqL.of hO, fun p1 hp1 => ?_⟩
    rw [ee1]
    have s1 := same_new hp1 (.lst ((os.take k).map V.int))
    refine ⟨_, rfl, _, rfl, _, _, rfl, rfl, _, hvt2, o, _, rfl, SqL.of (s1 _ _ hO), fun p2 hp2 => ?_⟩
    rw [ee2]
    have s2 := s1.trans (same_new hp2 (.lst ((os.drop (k + 1)).map V.int)))
    refine ⟨p1, p2, _, _, rfl, rfl, same_new hp2 _ _ _ upd_same, upd_same, (by simp only [List.length_map, List.length_take, List.length_drop]; omega), fun r hr' => ?_⟩
    rw [← List.map_append, hrest]
    have s3 := s2.trans (same_new hr' (.lst (rest.map V.int)))
    -- link
    refine ⟨_, rfl, _, rfl, o, _, _, .int x, rfl, hvt, SqL.of (s3 _ _ hO), hx, _, _, rfl, rfl, ?_⟩
    refine ⟨_, rfl, _, rfl, o, _, _, .int x, rfl, hvt, SqL.of (s3 _ _ hO), hx, _, _, rfl, rfl, ?_⟩
    refine ⟨_, rfl, a, ns, 6, rfl, s3.seq hS, by decide, _, rfl, _, _, rfl, rfl, (by show (0 : Int) < links; omega), (by show 3 ≤ sizeLine; decide), fun l hl => ?_⟩
    have s4 := s3.trans (same_new hl (.lst [V.int (x + 1), .int (x - 1), .int (cel ns 6 % links)]))
    refine ⟨_, rfl, a, ns, 5, rfl, s4.seq hS, by decide, _, _, rfl, rfl, ⟨by decide, by decide⟩, _, _, rfl, rfl, (by show (0 : Int) < 3; decide), ?_⟩
    have g0 := Int.emod_nonneg (cel ns 5 / 3) (show (3 : Int) ≠ 0 by decide)
    have g1 := Int.emod_lt_of_pos (cel ns 5 / 3) (show (0 : Int) < 3 by decide)
    obtain ⟨z, hz⟩ : ∃ z : Int, atI [V.int (x + 1), .int (x - 1), .int (cel ns 6 % links)] (cel ns 5 / 3 % 3) = some (.int z) := by
      rcases (show cel ns 5 / 3 % 3 = 0 ∨ cel ns 5 / 3 % 3 = 1 ∨ cel ns 5 / 3 % 3 = 2 by omega) with e | e | e <;> rw [e]
      · exact ⟨x + 1, rfl⟩
      · exact ⟨x - 1, rfl⟩
      · exact ⟨cel ns 6 % links, rfl⟩
    refine ⟨l, _, _, .int z, rfl, rfl, SqL.of upd_same, hz, ?_⟩
    have hR : (upd (upd (upd (upd H p1 (.lst ((os.take k).map V.int))) p2 (.lst ((os.drop (k + 1)).map V.int))) r (.lst (rest.map V.int))) l (.lst [V.int (x + 1), .int (x - 1), .int (cel ns 6 % links)])) r = some (.lst (rest.map V.int)) := same_new hl _ _ _ upd_same
    have back : Q (.ref r) _ := q r rest _ s4 hR Rr
    refine ⟨_, rfl, a, ns, 5, rfl, s4.seq hS, by decide, _, _, rfl, rfl, (by show (0 : Int) < 3; decide), rfl, _, rfl, ite2D (fun _ => ⟨_, rfl, back⟩) (fun _ => ?_)⟩
    refine ⟨_, rfl, _, _, rfl, rfl, _, rfl, ite2D (fun _ => ⟨_, rfl, back⟩) (fun c1 => ?_)⟩
    refine ⟨_, rfl, _, rfl, _, _, rfl, rfl, _, rfl, ite2D (fun _ => ⟨_, rfl, back⟩) (fun c2 => ?_)⟩
    refine ⟨_, rfl, _, rfl, z, r, rest, rfl, rfl, SqL.of hR, _, rfl, ite2D (fun _ => ⟨_, rfl, back⟩) (fun c3 => ?_)⟩
    refine ⟨_, rfl, _, rfl, (by show 1 ≤ sizeLine; decide), fun l2 hl2 => ?_⟩
    have s5 := s4.trans (same_new hl2 (.lst [V.int z]))
    refine ⟨r, l2, _, _, rfl, rfl, same_new hl2 _ _ _ hR, upd_same, (by rw [List.length_map]; show rest.length + 1 ≤ sizeLine; omega), fun r2 hr2 => ?_⟩
    have x1 : rest.map V.int ++ [V.int z] = (rest ++ [z]).map V.int := by rw [List.map_append]; rfl
    rw [x1]
    have s6 := s5.trans (same_new hr2 (.lst ((rest ++ [z]).map V.int)))
    refine ⟨r2, _, rfl, SqL.of upd_same, (by rw [List.length_append, List.length_singleton]; omega), fun l3 ss hl3 pm so => ?_⟩
    have dr : Lp.Drawn links rest 92 := ⟨(R.inc.sublist sub).imp fun h => Int.ne_of_lt h, Rr.rng, lrest⟩
    exact q l3 ss _ (s6.trans (same_new hl3 _)) upd_same ((dr.more (by omega) (by omega) c3).row R.lo R.hi pm so)
/-! law (point 8) -/
def spLaw (K : PySem.W.Frag) : Sp := fun vs H Q _ => ∃ (a : Addr) (ns : List Int), vs = [.ref a] ∧ SqL K H a (ns.map V.int) ∧ ns.length ≤ 63 ∧ ∀ H', Q (.bl true) H'
theorem longP_91 : longP 91 + 1 ≤ 10 ^ 30 := by unfold longP; decide
theorem longP_nn (n : Nat) : 1 ≤ longP n := Int.le_trans (by decide : (1 : Int) ≤ longP 0) (longP_le (Nat.zero_le n))
theorem sc_law : FnScope ["script", "links", "openings", "lap", "found", "other", "told", "due"] ["script"] (defScope s_law) := ⟨rfl, rfl, rfl, by decide +kernel, rfl, by decide +kernel, by decide +kernel⟩
set_option maxHeartbeats 0 in
theorem ok_law (D : Df K mg "law" ["script"] s_law) (B : Bl mg) (C1 : Cal P w K mg base CX0 1 "_law_cell_at" ["script", "k"] (spCell K)) (C2 : Cal P w K mg base CX0 1 "_law_next" ["seed"] spNext) (C3 : Cal P w K mg base CX0 1 "_law_longest" ["openings"] spLLongest)
    (C4 : Cal P w K mg base CX0 3 "opened_for" ["links"] spOpenedFor) (C5 : Cal P w K mg base CX0 2 "_law_right" ["found", "links", "openings"] spRight) (C6 : Cal P w K mg base CX0 5 "gap" ["links", "opened"] (spGap K))
    (C7 : Cal P w K mg base CX0 2 "_law_turned" ["script", "links", "opened"] (spTurned K)) (C8 : Cal P w K mg base CX0 2 "_law_gap" ["links", "opened"] spLGap) (C9 : Cal P w K mg base CX0 1 "_law_whole" ["found"] spWhole) : Cal P w K mg base CX0 6 "law" ["script"] (spLaw K) := by
  have S := sc_law
  refine D.ok S (fun vs H Q E h => ?_) (fun f cdv A outer s H vs Q E hr h => ?_)
  · obtain ⟨a, ns, rfl, _⟩ := h
    rfl
  · obtain ⟨a, ns, rfl, hS, h63, q⟩ := h
    have hr5 : Room 5 _ := hr.mono (by decide)
    have hr3 : Room 3 _ := hr.mono (by decide)
    have hr2 : Room 2 _ := hr.mono (by decide)
    have hr1 : Room 1 _ := hr.mono (by decide)
    refine ⟨_, pss_cons (ps_set (i := 1) S.nd rfl (Or.inl rfl) (pe_op op_add pe_int (pe_op op_mod (pe_calf C2 hr1 rfl (pa_cons (pe_calf C1 hr1 rfl (pa_cons (pv 0) (pa_cons pe_int pa_nil))) pa_nil)) pe_int)))
      (pss_cons (ps_cut (ps_if (pt_cmpR op_eq (pe_op op_mod (pe_calf C1 hr1 rfl (pa_cons (pv 0) (pa_cons pe_int pa_nil))) pe_int) pe_int (nomark _))
        (pss_one (ps_set (i := 1) S.nd rfl (Or.inl rfl) (pe_op op_add pe_int (pe_op op_mod (pe_calf C1 hr1 rfl (pa_cons (pv 0) (pa_cons pe_int pa_nil))) (pe_op op_pow pe_int pe_int))))) pss_nil))
      (pss_cons (ps_cut (ps_if (pt_cmpR op_eq (pe_op op_mod (pe_calf C1 hr1 rfl (pa_cons (pv 0) (pa_cons pe_int pa_nil))) pe_int) pe_int (nomark _))
        (pss_one (ps_set (i := 1) S.nd rfl (Or.inl rfl) (pe_op op_add (pe_calf C3 hr1 rfl (pa_cons (pe_op op_mod (pe_calf C1 hr1 rfl (pa_cons (pv 0) (pa_cons pe_int pa_nil))) pe_int) pa_nil)) (pe_op op_mod (pe_calf C1 hr1 rfl (pa_cons (pv 0) (pa_cons pe_int pa_nil))) pe_int)))) pss_nil))
      (pss_cons (ps_set (i := 2) S.nd rfl (Or.inl rfl) pe_int)
      (pss_cons (ps_while PassesOwn.never (pt_cmpR op_lt (pe_calf C3 hr1 rfl (pa_cons (pv 2) pa_nil)) (pv 1) (nomark _)) (pss_one (ps_set (i := 2) S.nd rfl (Or.inl rfl) (pe_op op_add (pv 2) pe_int))))
      (pss_cons (ps_for PassesOwn.never rfl (pi_range1 rfl B.n_range (pa_cons pe_int pa_nil)) (pg_name (i := 3) S.nd rfl (Or.inl rfl))
        (pss_cons (ps_set (i := 4) S.nd rfl (Or.inl rfl) (pe_calf C4 hr3 rfl (pa_cons (pv 1) pa_nil)))
        (pss_cons (ps_if (pt_or2 (pt_not (pt_val (pe_calf C5 hr2 rfl (pa_cons (pv 4) (pa_cons (pv 1) (pa_cons (pv 2) pa_nil))))))
          (pt_cmpR op_notN (pe_calf C6 hr5 rfl (pa_cons (pv 1) (pa_cons (pe_callTy call_list_of rfl B.n_list bb_list (pa_cons (pv 4) pa_nil)) pa_nil))) pe_non (nomark _))) (pss_one (ps_ret pe_bl)) pss_nil)
        (pss_cons (ps_set (i := 5) S.nd rfl (Or.inl rfl) (pe_calf C7 hr2 rfl (pa_cons (pv 0) (pa_cons (pv 1) (pa_cons (pv 4) pa_nil)))))
        (pss_cons (ps_set (i := 6) S.nd rfl (Or.inl rfl) (pe_calf C6 hr5 rfl (pa_cons (pv 1) (pa_cons (pe_callTy call_list_of rfl B.n_list bb_list (pa_cons (pv 5) pa_nil)) pa_nil))))
        (pss_cons (ps_set (i := 7) S.nd rfl (Or.inl rfl) (pe_calf C8 hr2 rfl (pa_cons (pv 1) (pa_cons (pv 5) pa_nil))))
        (pss_cons (ps_cut (ps_if (pt_or2 (pt_cmpR op_ne (pv 6) (pv 7) (nomark _)) (pt_and2 (pt_cmpR op_notN (pv 7) pe_non (nomark _)) (pt_not (pt_val (pe_calf C9 hr1 rfl (pa_cons (pv 6) pa_nil)))))) (pss_one (ps_ret pe_bl)) pss_nil))
        (pss_one (ps_expr (pe_bm PySem.F.plainAttrs_list PySem.F.slot_list_append PySem.F.type_list_append mt_append (pv 4) (pa_cons pe_int pa_nil)))))))))))
      (pss_one (ps_ret pe_bl))))))), ?_⟩
    have e16 : sizeLine = 16777216 := PySem.sizeLine_eq
    -- links
    refine ⟨_, rfl, a, ns, 0, rfl, hS, by decide, _, rfl, _, _, rfl, rfl, (by show (0 : Int) < 200; decide), _, _, rfl, rfl, ?_⟩
    have u0 := Int.emod_nonneg (nxt (cel ns 0)) (show (200 : Int) ≠ 0 by decide)
    have u1 := Int.emod_lt_of_pos (nxt (cel ns 0)) (show (0 : Int) < 200 by decide)
    have l0 := Int.emod_nonneg (cel ns 0) (show (10 ^ 30 : Int) ≠ 0 by decide)
    have l1 := Int.emod_lt_of_pos (cel ns 0) (show (0 : Int) < 10 ^ 30 by decide)
    refine ⟨fun σ2 H2 => H2 = H ∧ ∃ L : Int, σ2 = [some (.ref a), some (.int L), none, none, none, none, none, none] ∧ 1 ≤ L ∧ L ≤ 10 ^ 30, ?_, ?_⟩
    · refine ⟨_, rfl, a, ns, 1, rfl, hS, by decide, _, _, rfl, rfl, (by show (0 : Int) < 3; decide), rfl, _, rfl, ite2D (fun c => ?_) (fun c => ?_)⟩
      · refine ⟨_, rfl, a, ns, 0, rfl, hS, by decide, _, _, rfl, rfl, ⟨by decide, by decide, by decide⟩, _, _, rfl, rfl, (by show (0 : Int) < 10 ^ 30; decide), _, _, rfl, rfl, rfl, _, rfl, ?_⟩
        show 1 ≤ 1 + cel ns 0 % (10 ^ 30) ∧ 1 + cel ns 0 % (10 ^ 30) ≤ 10 ^ 30
        omega
      · refine ⟨rfl, _, rfl, ?_⟩
        show 1 ≤ 1 + nxt (cel ns 0) % 200 ∧ 1 + nxt (cel ns 0) % 200 ≤ 10 ^ 30
        omega
    rintro σ2 H2 ⟨rfl, L0, rfl, hL1, hL2⟩
    refine ⟨fun σ2 H3 => H3 = H2 ∧ ∃ L : Int, σ2 = [some (.ref a), some (.int L), none, none, none, none, none, none] ∧ 1 ≤ L ∧ L ≤ 10 ^ 30, ?_, ?_⟩
    · refine ⟨_, rfl, a, ns, 1, rfl, hS, by decide, _, _, rfl, rfl, (by show (0 : Int) < 3; decide), rfl, _, rfl, ite2D (fun c => ?_) (fun c => ?_)⟩
      · have m0 := Int.emod_nonneg (cel ns 2) (show (92 : Int) ≠ 0 by decide)
        have m1 := Int.emod_lt_of_pos (cel ns 2) (show (0 : Int) < 92 by decide)
        have t0 := Int.emod_nonneg (cel ns 3) (show (2 : Int) ≠ 0 by decide)
        have t1 := Int.emod_lt_of_pos (cel ns 3) (show (0 : Int) < 2 by decide)
        refine ⟨_, rfl, a, ns, 2, rfl, hS, by decide, _, _, rfl, rfl, (by show (0 : Int) < 92; decide), _, rfl, m0, by omega, _, rfl, a, ns, 3, rfl, hS, by decide, _, _, rfl, rfl, (by show (0 : Int) < 2; decide), _, _, rfl, rfl, rfl, _, rfl, ?_⟩
        have b1 := longP_nn (cel ns 2 % 92).toNat
        have b2 : longP (cel ns 2 % 92).toNat ≤ longP 91 := longP_le (by omega)
        have b3 := longP_91
        show 1 ≤ longP (cel ns 2 % 92).toNat + cel ns 3 % 2 ∧ longP (cel ns 2 % 92).toNat + cel ns 3 % 2 ≤ 10 ^ 30
        omega
      · exact ⟨rfl, _, rfl, hL1, hL2⟩
    rintro σ3 H3 ⟨rfl, L, rfl, hM1, hM2⟩
    -- openings
    refine ⟨fun m σ H' => H' = H3 ∧ ∃ n : Nat, σ = [some (.ref a), some (.int L), some (.int n), none, none, none, none, none] ∧ n ≤ 93 ∧ (∀ k, k < n → longP k < L) ∧ m = 93 - n, ⟨_, rfl, 0, rfl, by decide, fun k hk => by omega, rfl⟩, ?_⟩
    rintro m σ H' ⟨rfl, n, rfl, hn, hk, rfl⟩
    refine ⟨_, rfl, _, rfl, by omega, by omega, _, rfl, _, _, rfl, rfl, _, rfl, ite2D (fun c => ?_) (fun c => ?_)⟩
    · rw [Int.toNat_natCast] at c
      have hlt : n < 93 := by
        rcases Nat.lt_or_ge n 93 with z | z
        · exact z
        · have e : n = 93 := by omega
          subst e
          have := longP_93
          omega
      refine ⟨fun σ' H'' => H'' = H' ∧ σ' = [some (.ref a), some (.int L), some (.int ((n + 1 : Nat) : Int)), none, none, none, none, none], ?_, ?_⟩
      · rintro σ' H'' ⟨rfl, rfl⟩
        refine ⟨93 - (n + 1), by omega, rfl, n + 1, rfl, by omega, fun k hk' => ?_, rfl⟩
        by_cases e : k = n
        · subst e; exact c
        · exact hk k (by omega)
      · exact ⟨_, rfl, _, _, rfl, rfl, rfl, rfl⟩
    rw [Int.toNat_natCast] at c
    have F : Few L n := ⟨hk, by omega⟩
    have Rn := opn_row F hM1 hM2
    -- twice
    refine ⟨_, rfl, by decide, by decide, ?_⟩
    refine for_range (lo := 0) (fun i σ H1 => ∃ v3 v4 v5 v6 v7 : Option V, σ = [some (.ref a), some (.int L), some (.int n), v3, v4, v5, v6, v7] ∧ Same H' H1) ?_ ?_ ?_
    · exact ⟨none, none, none, none, none, rfl, fun _ _ z => z⟩
    · rintro i σ H1 hi ⟨v3, v4, v5, v6, v7, rfl, sm⟩
      refine ⟨_, rfl, L, rfl, hM1, hM2, fun n' p H2 F' s2 hp hP => ?_⟩
      obtain rfl := F'.unique F
      have sp := sm.trans s2
      refine ⟨_, rfl, _, rfl, _, rfl, L, p, opn L n' n', (by rw [opn_len]; rfl), hP, Rn.mono (by decide), fun ys pm so => opn_full F hM1 hM2 pm so, fun H4 s4 => ⟨_, rfl, iteF ?_⟩⟩
      refine ⟨_, rfl, _, rfl, p, _, rfl, .inl (SqL.of (s4 _ _ hP)), fun l hl => ?_⟩
      refine ⟨L, l, opn L n' n', rfl, SqL.of upd_same, Rn.mono (by decide), fun ys H5 s5 pm so => ?_⟩
      rw [opn_full F hM1 hM2 pm so]
      refine ⟨rfl, _, rfl, iteF ?_⟩
      have s6 := s4.trans ((same_new hl (.lst ((opn L n' n').map V.int))).trans s5)
      have hP5 := s6 _ _ hP
      have sp5 := sp.trans s6
      refine ⟨_, rfl, _, rfl, _, rfl, a, p, ns, opn L n' n', L, rfl, sp5.seq hS, hP5, Rn, fun p7 os7 H7 s7 h7 R7 => ?_⟩
      refine ⟨_, rfl, _, rfl, p7, _, rfl, .inl (SqL.of h7), fun l8 hl8 => ?_⟩
      refine ⟨L, l8, os7, rfl, SqL.of upd_same, R7.mono (by decide), fun ys8 H8 s8 pm8 so8 => ?_⟩
      have s9 := (same_new hl8 (.lst (os7.map V.int))).trans s8
      refine ⟨_, rfl, _, rfl, L, p7, os7, rfl, s9 _ _ h7, R7.mono (by decide), fun ys9 H9 s10 pm9 so9 => ?_⟩
      obtain rfl : ys9 = ys8 := sorted_unique (pm9.trans pm8.symm) so9 so8
      have hP9 := s10 _ _ (s9 _ _ (s7 _ _ hP5))
      have sp9 := sp5.trans (s7.trans (s9.trans s10))
      refine ⟨fun σ' H'' => H'' = H9 ∧ ∃ v3 v6 : Option V, σ' = [some (.ref a), some (.int L), some (.int n'), v3, some (.ref p), some (.ref p7), v6, v6], ?_, ?_⟩
      · cases hg : gapOf 0 ys9 with
        | none =>
          refine ⟨_, rfl, _, rfl, rfl, _, rfl, ?_⟩
          refine ite2N (fun h => absurd rfl h) fun _ => ?_
          exact ⟨_, rfl, rfl, _, rfl, iteF ⟨rfl, _, _, rfl⟩⟩
        | some g =>
          refine ⟨_, rfl, _, rfl, rfl, _, rfl, ?_⟩
          refine ite2N (fun h => absurd rfl h) fun _ => ?_
          refine ⟨_, rfl, rfl, _, rfl, iteT ?_⟩
          exact ⟨_, rfl, g, rfl, _, rfl, iteF ⟨rfl, _, _, rfl⟩⟩
      · rintro σ' H'' ⟨rfl, w3, w6, rfl⟩
        refine ⟨_, rfl, .inl ⟨rfl, _, SqL.of hP9⟩, p, _, _, rfl, rfl, hP9, small1000 (by rw [List.length_map, opn_len]; omega), ?_⟩
        refine ⟨_, _, _, _, _, rfl, fun b u z => ?_⟩
        have hne : b ≠ p := fun e => by
          subst e
          have := sm _ _ z
          rw [hp] at this
          cases this
        rw [upd_ne hne]
        exact sp9 _ _ z
    · rintro σ H1 ⟨v3, v4, v5, v6, v7, rfl, sm⟩
      exact q _
end
theorem all_mk {l : PySem.W.OpenLaw} {w : World} {K : PySem.W.Frag} {h : Heap} {mg : Str → Option Value} {fa f1 f2 f3 f4 f5 f6 f7 f8 f9 f10 f11 f12 f13 f14 f15 f16 f17 f18 f19 : Addr} (X : K.In h) (G : h.Ns mainGlobals mg) (hfa : mg "law" = some (.ref fa))
    {od1 od2 od3 od4 od5 od6 od7 od8 od9 od10 od11 od12 od13 od14 od15 od16 od17 od18 od19 an1 an2 an3 an4 an5 an6 an7 an8 an9 an10 an11 an12 an13 an14 an15 an16 an17 an18 an19 : Option Addr} {sl1 sl2 sl3 sl4 sl5 sl6 sl7 sl8 sl9 sl10 sl11 sl12 sl13 sl14 sl15 sl16 sl17 sl18 sl19 : Array (Option Value)} {oc1 oc2 oc3 oc4 oc5 oc6 oc7 oc8 oc9 oc10 oc11 oc12 oc13 oc14 oc15 oc16 oc17 oc18 oc19 kV1 kV2 kV3 kV4 kV5 kV6 kV7 kV8 kV9 kV10 kV11 kV12 kV13 kV14 kV15 kV16 kV17 kV18 kV19 dc1 dc2 dc3 dc4 dc5 dc6 dc7 dc8 dc9 dc10 dc11 dc12 dc13 dc14 dc15 dc16 dc17 dc18 dc19 pm1 pm2 pm3 pm4 pm5 pm6 pm7 pm8 pm9 pm10 pm11 pm12 pm13 pm14 pm15 pm16 pm17 pm18 pm19 cd1 cd2 cd3 cd4 cd5 cd6 cd7 cd8 cd9 cd10 cd11 cd12 cd13 cd14 cd15 cd16 cd17 cd18 cd19 ct1 ct2 ct3 ct4 ct5 ct6 ct7 ct8 ct9 ct10 ct11 ct12 ct13 ct14 ct15 ct16 ct17 ct18 ct19 : Value} {tk0 tk1 : Tok}
    (a1 : PySem.W.nsIn K mainGlobals "check_links" = some (some (.ref f1))) (l1 : K.lookup f1 = some ⟨oc1, od1, .func (PySem.W.fnOf "check_links" "check_links" (defArgs s_check_links) (defBody s_check_links) (defScope s_check_links) .none kV1 dc1 pm1 an1 cd1 ct1), sl1⟩) (c1 : PySem.W.codeIn K cd1 "check_links" = true) (k1 : PySem.W.keepIn K (.ref f1) = true)
    (a2 : PySem.W.nsIn K mainGlobals "rises_below" = some (some (.ref f2))) (l2 : K.lookup f2 = some ⟨oc2, od2, .func (PySem.W.fnOf "rises_below" "rises_below" (defArgs s_rises_below) (defBody s_rises_below) (defScope s_rises_below) .none kV2 dc2 pm2 an2 cd2 ct2), sl2⟩) (c2 : PySem.W.codeIn K cd2 "rises_below" = true) (k2 : PySem.W.keepIn K (.ref f2) = true)
    (a3 : PySem.W.nsIn K mainGlobals "check_row" = some (some (.ref f3))) (l3 : K.lookup f3 = some ⟨oc3, od3, .func (PySem.W.fnOf "check_row" "check_row" (defArgs s_check_row) (defBody s_check_row) (defScope s_check_row) .none kV3 dc3 pm3 an3 cd3 ct3), sl3⟩) (c3 : PySem.W.codeIn K cd3 "check_row" = true) (k3 : PySem.W.keepIn K (.ref f3) = true)
    (a4 : PySem.W.nsIn K mainGlobals "pieces" = some (some (.ref f4))) (l4 : K.lookup f4 = some ⟨oc4, od4, .func (PySem.W.fnOf "pieces" "pieces" (defArgs s_pieces) (defBody s_pieces) (defScope s_pieces) .none kV4 dc4 pm4 an4 cd4 ct4), sl4⟩) (c4 : PySem.W.codeIn K cd4 "pieces" = true) (k4 : PySem.W.keepIn K (.ref f4) = true)
    (a5 : PySem.W.nsIn K mainGlobals "sizes" = some (some (.ref f5))) (l5 : K.lookup f5 = some ⟨oc5, od5, .func (PySem.W.fnOf "sizes" "sizes" (defArgs s_sizes) (defBody s_sizes) (defScope s_sizes) .none kV5 dc5 pm5 an5 cd5 ct5), sl5⟩) (c5 : PySem.W.codeIn K cd5 "sizes" = true) (k5 : PySem.W.keepIn K (.ref f5) = true)
    (a6 : PySem.W.nsIn K mainGlobals "gap" = some (some (.ref f6))) (l6 : K.lookup f6 = some ⟨oc6, od6, .func (PySem.W.fnOf "gap" "gap" (defArgs s_gap) (defBody s_gap) (defScope s_gap) .none kV6 dc6 pm6 an6 cd6 ct6), sl6⟩) (c6 : PySem.W.codeIn K cd6 "gap" = true) (k6 : PySem.W.keepIn K (.ref f6) = true)
    (a7 : PySem.W.nsIn K mainGlobals "longest" = some (some (.ref f7))) (l7 : K.lookup f7 = some ⟨oc7, od7, .func (PySem.W.fnOf "longest" "longest" (defArgs s_longest) (defBody s_longest) (defScope s_longest) .none kV7 dc7 pm7 an7 cd7 ct7), sl7⟩) (c7 : PySem.W.codeIn K cd7 "longest" = true) (k7 : PySem.W.keepIn K (.ref f7) = true)
    (a8 : PySem.W.nsIn K mainGlobals "fewest" = some (some (.ref f8))) (l8 : K.lookup f8 = some ⟨oc8, od8, .func (PySem.W.fnOf "fewest" "fewest" (defArgs s_fewest) (defBody s_fewest) (defScope s_fewest) .none kV8 dc8 pm8 an8 cd8 ct8), sl8⟩) (c8 : PySem.W.codeIn K cd8 "fewest" = true) (k8 : PySem.W.keepIn K (.ref f8) = true)
    (a9 : PySem.W.nsIn K mainGlobals "opened_for" = some (some (.ref f9))) (l9 : K.lookup f9 = some ⟨oc9, od9, .func (PySem.W.fnOf "opened_for" "opened_for" (defArgs s_opened_for) (defBody s_opened_for) (defScope s_opened_for) .none kV9 dc9 pm9 an9 cd9 ct9), sl9⟩) (c9 : PySem.W.codeIn K cd9 "opened_for" = true) (k9 : PySem.W.keepIn K (.ref f9) = true)
    (a10 : PySem.W.nsIn K mainGlobals "_law_cell_at" = some (some (.ref f10))) (l10 : K.lookup f10 = some ⟨oc10, od10, .func (PySem.W.fnOf "_law_cell_at" "_law_cell_at" (defArgs s__law_cell_at) (defBody s__law_cell_at) (defScope s__law_cell_at) .none kV10 dc10 pm10 an10 cd10 ct10), sl10⟩) (c10 : PySem.W.codeIn K cd10 "_law_cell_at" = true) (k10 : PySem.W.keepIn K (.ref f10) = true)
    (a11 : PySem.W.nsIn K mainGlobals "_law_next" = some (some (.ref f11))) (l11 : K.lookup f11 = some ⟨oc11, od11, .func (PySem.W.fnOf "_law_next" "_law_next" (defArgs s__law_next) (defBody s__law_next) (defScope s__law_next) .none kV11 dc11 pm11 an11 cd11 ct11), sl11⟩) (c11 : PySem.W.codeIn K cd11 "_law_next" = true) (k11 : PySem.W.keepIn K (.ref f11) = true)
    (a12 : PySem.W.nsIn K mainGlobals "_law_whole" = some (some (.ref f12))) (l12 : K.lookup f12 = some ⟨oc12, od12, .func (PySem.W.fnOf "_law_whole" "_law_whole" (defArgs s__law_whole) (defBody s__law_whole) (defScope s__law_whole) .none kV12 dc12 pm12 an12 cd12 ct12), sl12⟩) (c12 : PySem.W.codeIn K cd12 "_law_whole" = true) (k12 : PySem.W.keepIn K (.ref f12) = true)
    (a13 : PySem.W.nsIn K mainGlobals "_law_numbers_like" = some (some (.ref f13))) (l13 : K.lookup f13 = some ⟨oc13, od13, .func (PySem.W.fnOf "_law_numbers_like" "_law_numbers_like" (defArgs s__law_numbers_like) (defBody s__law_numbers_like) (defScope s__law_numbers_like) .none kV13 dc13 pm13 an13 cd13 ct13), sl13⟩) (c13 : PySem.W.codeIn K cd13 "_law_numbers_like" = true) (k13 : PySem.W.keepIn K (.ref f13) = true)
    (a14 : PySem.W.nsIn K mainGlobals "_law_pieces" = some (some (.ref f14))) (l14 : K.lookup f14 = some ⟨oc14, od14, .func (PySem.W.fnOf "_law_pieces" "_law_pieces" (defArgs s__law_pieces) (defBody s__law_pieces) (defScope s__law_pieces) .none kV14 dc14 pm14 an14 cd14 ct14), sl14⟩) (c14 : PySem.W.codeIn K cd14 "_law_pieces" = true) (k14 : PySem.W.keepIn K (.ref f14) = true)
    (a15 : PySem.W.nsIn K mainGlobals "_law_longest" = some (some (.ref f15))) (l15 : K.lookup f15 = some ⟨oc15, od15, .func (PySem.W.fnOf "_law_longest" "_law_longest" (defArgs s__law_longest) (defBody s__law_longest) (defScope s__law_longest) .none kV15 dc15 pm15 an15 cd15 ct15), sl15⟩) (c15 : PySem.W.codeIn K cd15 "_law_longest" = true) (k15 : PySem.W.keepIn K (.ref f15) = true)
    (a16 : PySem.W.nsIn K mainGlobals "_law_right" = some (some (.ref f16))) (l16 : K.lookup f16 = some ⟨oc16, od16, .func (PySem.W.fnOf "_law_right" "_law_right" (defArgs s__law_right) (defBody s__law_right) (defScope s__law_right) .none kV16 dc16 pm16 an16 cd16 ct16), sl16⟩) (c16 : PySem.W.codeIn K cd16 "_law_right" = true) (k16 : PySem.W.keepIn K (.ref f16) = true)
    (a17 : PySem.W.nsIn K mainGlobals "_law_gap" = some (some (.ref f17))) (l17 : K.lookup f17 = some ⟨oc17, od17, .func (PySem.W.fnOf "_law_gap" "_law_gap" (defArgs s__law_gap) (defBody s__law_gap) (defScope s__law_gap) .none kV17 dc17 pm17 an17 cd17 ct17), sl17⟩) (c17 : PySem.W.codeIn K cd17 "_law_gap" = true) (k17 : PySem.W.keepIn K (.ref f17) = true)
    (a18 : PySem.W.nsIn K mainGlobals "_law_turned" = some (some (.ref f18))) (l18 : K.lookup f18 = some ⟨oc18, od18, .func (PySem.W.fnOf "_law_turned" "_law_turned" (defArgs s__law_turned) (defBody s__law_turned) (defScope s__law_turned) .none kV18 dc18 pm18 an18 cd18 ct18), sl18⟩) (c18 : PySem.W.codeIn K cd18 "_law_turned" = true) (k18 : PySem.W.keepIn K (.ref f18) = true)
    (a19 : PySem.W.nsIn K mainGlobals "law" = some (some (.ref f19))) (l19 : K.lookup f19 = some ⟨oc19, od19, .func (PySem.W.fnOf "law" "law" (defArgs s_law) (defBody s_law) (defScope s_law) .none kV19 dc19 pm19 an19 cd19 ct19), sl19⟩) (c19 : PySem.W.codeIn K cd19 "law" = true) (k19 : PySem.W.keepIn K (.ref f19) = true)
    (z0 : PySem.W.nsIn K mainGlobals "len" = some none)
    (z1 : PySem.W.nsIn K mainGlobals "range" = some none)
    (z2 : PySem.W.nsIn K mainGlobals "list" = some none)
    (z3 : PySem.W.nsIn K mainGlobals "sorted" = some none)
    (z4 : PySem.W.nsIn K mainGlobals "isinstance" = some none)
    (z5 : PySem.W.nsIn K mainGlobals "int" = some none)
    (z6 : PySem.W.nsIn K mainGlobals "bool" = some none)
    (z7 : PySem.W.nsIn K mainGlobals "tuple" = some none)
    (z8 : PySem.W.nsIn K mainGlobals "dict" = some none)
    (z9 : PySem.W.nsIn K mainGlobals "sum" = some none)
    (z10 : PySem.W.nsIn K mainGlobals "max" = some none)
    (z11 : PySem.W.nsIn K mainGlobals "min" = some none)
    (z12 : PySem.W.nsIn K mainGlobals "enumerate" = some none)
    (z13 : PySem.W.nsIn K mainGlobals "zip" = some none)
    (z14 : PySem.W.nsIn K mainGlobals "set" = some none)
    (z15 : PySem.W.nsIn K mainGlobals "str" = some none)
    (z16 : PySem.W.nsIn K mainGlobals "ValueError" = some none)
    (m0 : PySem.W.nsIn K mainGlobals "MOST_OPENED" = some (some (.int 100 tk0)))
    (m1 : PySem.W.nsIn K mainGlobals "MOST_OPENINGS" = some (some (.int 100 tk1))) :
    ∃ fd : FuncData, (∀ (s : Shared) (v : Value), BindsTo s fd ⟨[v], []⟩ [("script", v)]) ∧ ∀ base : Heap, K.In base → base.Ns mainGlobals mg → FnOk l.prog w K mg base CX0 6 fa fd ["script"] (spLaw K) := by
  have e := hfa.symm.trans (PySem.W.mg_of X G a19)
  cases e
  have B : Bl mg := ⟨PySem.W.mg_none_of X G z0, PySem.W.mg_none_of X G z1, PySem.W.mg_none_of X G z2, PySem.W.mg_none_of X G z3, PySem.W.mg_none_of X G z4, PySem.W.mg_none_of X G z5, PySem.W.mg_none_of X G z6, PySem.W.mg_none_of X G z7, PySem.W.mg_none_of X G z8, PySem.W.mg_none_of X G z9, PySem.W.mg_none_of X G z10, PySem.W.mg_none_of X G z11, PySem.W.mg_none_of X G z12, PySem.W.mg_none_of X G z13, PySem.W.mg_none_of X G z14, PySem.W.mg_none_of X G z15, PySem.W.mg_none_of X G z16⟩
  have c_MOST_OPENED : ∃ t, mg "MOST_OPENED" = some (.int 100 t) := ⟨_, PySem.W.mg_of X G m0⟩
  have c_MOST_OPENINGS : ∃ t, mg "MOST_OPENINGS" = some (.int 100 t) := ⟨_, PySem.W.mg_of X G m1⟩
  have F1 := fun_mk (st := s_check_links) l1 c1 k1
  have D1 : Df K mg "check_links" ["links"] s_check_links := ⟨_, _, F1, F1.binds (ps := ["links"]) (fun _ _ _ _ _ _ us hl => match us, hl with | [_], _ => rfl), PySem.W.mg_of X G a1⟩
  have F2 := fun_mk (st := s_rises_below) l2 c2 k2
  have D2 : Df K mg "rises_below" ["numbers", "end"] s_rises_below := ⟨_, _, F2, F2.binds (ps := ["numbers", "end"]) (fun _ _ _ _ _ _ us hl => match us, hl with | [_, _], _ => rfl), PySem.W.mg_of X G a2⟩
  have F3 := fun_mk (st := s_check_row) l3 c3 k3
  have D3 : Df K mg "check_row" ["links", "opened"] s_check_row := ⟨_, _, F3, F3.binds (ps := ["links", "opened"]) (fun _ _ _ _ _ _ us hl => match us, hl with | [_, _], _ => rfl), PySem.W.mg_of X G a3⟩
  have F4 := fun_mk (st := s_pieces) l4 c4 k4
  have D4 : Df K mg "pieces" ["links", "opened"] s_pieces := ⟨_, _, F4, F4.binds (ps := ["links", "opened"]) (fun _ _ _ _ _ _ us hl => match us, hl with | [_, _], _ => rfl), PySem.W.mg_of X G a4⟩
  have F5 := fun_mk (st := s_sizes) l5 c5 k5
  have D5 : Df K mg "sizes" ["links", "opened"] s_sizes := ⟨_, _, F5, F5.binds (ps := ["links", "opened"]) (fun _ _ _ _ _ _ us hl => match us, hl with | [_, _], _ => rfl), PySem.W.mg_of X G a5⟩
  have F6 := fun_mk (st := s_gap) l6 c6 k6
  have D6 : Df K mg "gap" ["links", "opened"] s_gap := ⟨_, _, F6, F6.binds (ps := ["links", "opened"]) (fun _ _ _ _ _ _ us hl => match us, hl with | [_, _], _ => rfl), PySem.W.mg_of X G a6⟩
  have F7 := fun_mk (st := s_longest) l7 c7 k7
  have D7 : Df K mg "longest" ["openings"] s_longest := ⟨_, _, F7, F7.binds (ps := ["openings"]) (fun _ _ _ _ _ _ us hl => match us, hl with | [_], _ => rfl), PySem.W.mg_of X G a7⟩
  have F8 := fun_mk (st := s_fewest) l8 c8 k8
  have D8 : Df K mg "fewest" ["links"] s_fewest := ⟨_, _, F8, F8.binds (ps := ["links"]) (fun _ _ _ _ _ _ us hl => match us, hl with | [_], _ => rfl), PySem.W.mg_of X G a8⟩
  have F9 := fun_mk (st := s_opened_for) l9 c9 k9
  have D9 : Df K mg "opened_for" ["links"] s_opened_for := ⟨_, _, F9, F9.binds (ps := ["links"]) (fun _ _ _ _ _ _ us hl => match us, hl with | [_], _ => rfl), PySem.W.mg_of X G a9⟩
  have F10 := fun_mk (st := s__law_cell_at) l10 c10 k10
  have D10 : Df K mg "_law_cell_at" ["script", "k"] s__law_cell_at := ⟨_, _, F10, F10.binds (ps := ["script", "k"]) (fun _ _ _ _ _ _ us hl => match us, hl with | [_, _], _ => rfl), PySem.W.mg_of X G a10⟩
  have F11 := fun_mk (st := s__law_next) l11 c11 k11
  have D11 : Df K mg "_law_next" ["seed"] s__law_next := ⟨_, _, F11, F11.binds (ps := ["seed"]) (fun _ _ _ _ _ _ us hl => match us, hl with | [_], _ => rfl), PySem.W.mg_of X G a11⟩
  have F12 := fun_mk (st := s__law_whole) l12 c12 k12
  have D12 : Df K mg "_law_whole" ["found"] s__law_whole := ⟨_, _, F12, F12.binds (ps := ["found"]) (fun _ _ _ _ _ _ us hl => match us, hl with | [_], _ => rfl), PySem.W.mg_of X G a12⟩
  have F13 := fun_mk (st := s__law_numbers_like) l13 c13 k13
  have D13 : Df K mg "_law_numbers_like" ["found", "due"] s__law_numbers_like := ⟨_, _, F13, F13.binds (ps := ["found", "due"]) (fun _ _ _ _ _ _ us hl => match us, hl with | [_, _], _ => rfl), PySem.W.mg_of X G a13⟩
  have F14 := fun_mk (st := s__law_pieces) l14 c14 k14
  have D14 : Df K mg "_law_pieces" ["links", "opened"] s__law_pieces := ⟨_, _, F14, F14.binds (ps := ["links", "opened"]) (fun _ _ _ _ _ _ us hl => match us, hl with | [_, _], _ => rfl), PySem.W.mg_of X G a14⟩
  have F15 := fun_mk (st := s__law_longest) l15 c15 k15
  have D15 : Df K mg "_law_longest" ["openings"] s__law_longest := ⟨_, _, F15, F15.binds (ps := ["openings"]) (fun _ _ _ _ _ _ us hl => match us, hl with | [_], _ => rfl), PySem.W.mg_of X G a15⟩
  have F16 := fun_mk (st := s__law_right) l16 c16 k16
  have D16 : Df K mg "_law_right" ["found", "links", "openings"] s__law_right := ⟨_, _, F16, F16.binds (ps := ["found", "links", "openings"]) (fun _ _ _ _ _ _ us hl => match us, hl with | [_, _, _], _ => rfl), PySem.W.mg_of X G a16⟩
  have F17 := fun_mk (st := s__law_gap) l17 c17 k17
  have D17 : Df K mg "_law_gap" ["links", "opened"] s__law_gap := ⟨_, _, F17, F17.binds (ps := ["links", "opened"]) (fun _ _ _ _ _ _ us hl => match us, hl with | [_, _], _ => rfl), PySem.W.mg_of X G a17⟩
  have F18 := fun_mk (st := s__law_turned) l18 c18 k18
  have D18 : Df K mg "_law_turned" ["script", "links", "opened"] s__law_turned := ⟨_, _, F18, F18.binds (ps := ["script", "links", "opened"]) (fun _ _ _ _ _ _ us hl => match us, hl with | [_, _, _], _ => rfl), PySem.W.mg_of X G a18⟩
  have F19 := fun_mk (st := s_law) l19 c19 k19
  have D19 : Df K mg "law" ["script"] s_law := ⟨_, _, F19, F19.binds (ps := ["script"]) (fun _ _ _ _ _ _ us hl => match us, hl with | [_], _ => rfl), PySem.W.mg_of X G a19⟩
  refine ⟨PySem.W.fnOf "law" "law" (defArgs s_law) (defBody s_law) (defScope s_law) .none kV19 dc19 pm19 an19 cd19 ct19, fun s v => .of_eq rfl, fun base _ _ => ?_⟩
  have C_check_links := ok_check_links (P := l.prog) (w := w) (base := base) D1
  have C_rises_below := ok_rises_below (P := l.prog) (w := w) (base := base) D2
  have C_check_row := ok_check_row (P := l.prog) (w := w) (base := base) D3 B c_MOST_OPENED C_check_links C_rises_below
  have C_pieces := ok_pieces (P := l.prog) (w := w) (base := base) D4 C_check_row
  have C_sizes := ok_sizes (P := l.prog) (w := w) (base := base) D5 C_pieces
  have C_gap := ok_gap (P := l.prog) (w := w) (base := base) D6 B C_sizes
  have C_longest := ok_longest (P := l.prog) (w := w) (base := base) D7 B c_MOST_OPENINGS
  have C_fewest := ok_fewest (P := l.prog) (w := w) (base := base) D8 C_check_links C_longest
  have C_opened_for := ok_opened_for (P := l.prog) (w := w) (base := base) D9 B C_fewest
  have C__law_cell_at := ok__law_cell_at (P := l.prog) (w := w) (base := base) D10 B
  have C__law_next := ok__law_next (P := l.prog) (w := w) (base := base) D11
  have C__law_whole := ok__law_whole (P := l.prog) (w := w) (base := base) D12 B
  have C__law_numbers_like := ok__law_numbers_like (P := l.prog) (w := w) (base := base) D13 B
  have C__law_pieces := ok__law_pieces (P := l.prog) (w := w) (base := base) D14
  have C__law_longest := ok__law_longest (P := l.prog) (w := w) (base := base) D15 B
  have C__law_right := ok__law_right (P := l.prog) (w := w) (base := base) D16 B C__law_numbers_like C__law_pieces
  have C__law_gap := ok__law_gap (P := l.prog) (w := w) (base := base) D17 B C__law_pieces
  have C__law_turned := ok__law_turned (P := l.prog) (w := w) (base := base) D18 B C__law_cell_at
  have C_law := ok_law (P := l.prog) (w := w) (base := base) D19 B C__law_cell_at C__law_next C__law_longest C_opened_for C__law_right C_gap C__law_turned C__law_gap C__law_whole
  obtain ⟨f, fd, F, b, m, kk, oc, od, osl, lk⟩ := C_law.ex
  have em := m.symm.trans (PySem.W.mg_of X G a19)
  cases em
  have el := lk.symm.trans l19
  cases el
  exact F
theorem walk {l : PySem.W.OpenLaw} {q : Program} {loose : List Str} {XP : (Str → Option Value) → Heap → Prop} {YP : World → Heap → Prop} {d : DefRec} {K : Params → PySem.W.Frag} (hn : l.most = some 63) (hdf : d.params.defaults = [])
    (hY : ∀ (w : World) (h : Heap), YP w h → (K w.params).In h)
    (F : ∀ (w : World) (mg : Str → Option Value) (fa : Addr) (h : Heap), (K w.params).In h → h.Ns mainGlobals mg → mg d.name = some (.ref fa) →
      ∃ fd : FuncData, (∀ (s : Shared) (u : Value), BindsTo s fd ⟨[u], []⟩ [("script", u)]) ∧ ∀ base : Heap, (K w.params).In base → base.Ns mainGlobals mg → FnOk l.prog w (K w.params) mg base CX0 6 fa fd ["script"] (spLaw (K w.params))) :
    PySem.W.WalkO q loose XP YP l.row.toRowW d [] (fun f vs => PySem.call f vs) :=
  L2.walk_of (n := 63) (k := 6) (x := "script") (CX := fun _ => CX0) (sp := fun w => spLaw (K w.params)) hn (by decide) hdf ⟨rfl, by decide, by decide⟩ hY F (fun _ _ a ns hl _ hS => ⟨a, ns, rfl, hS, hl, fun _ => rfl⟩) fun _ _ _ _ _ z => z
end Lp
open PySem PySem.W PyProof.Rows
set_option maxRecDepth 100000 in
set_option maxHeartbeats 0 in
theorem PySem.Challenge.cw_linkpay_k08_whole_all_amounts_by_few_holds : PySem.Challenge.rw_linkpay_k08_whole_all_amounts_by_few.Holds := by
  w_on; o_law; k_head; (case hw => w_witness2)
  k_fill
  refine Lp.walk (l := PySem.Challenge.rw_linkpay_k08_whole_all_amounts_by_few) rfl rfl (fun w h Y => PySem.W.kIn_of Y) ?F
  case F =>
    intro w mg fa h KX G hmg
    refine' Lp.all_mk KX G hmg ?a1 ?l1 ?c1 ?k1 ?a2 ?l2 ?c2 ?k2 ?a3 ?l3 ?c3 ?k3 ?a4 ?l4 ?c4 ?k4 ?a5 ?l5 ?c5 ?k5 ?a6 ?l6 ?c6 ?k6 ?a7 ?l7 ?c7 ?k7 ?a8 ?l8 ?c8 ?k8 ?a9 ?l9 ?c9 ?k9 ?a10 ?l10 ?c10 ?k10 ?a11 ?l11 ?c11 ?k11 ?a12 ?l12 ?c12 ?k12 ?a13 ?l13 ?c13 ?k13 ?a14 ?l14 ?c14 ?k14 ?a15 ?l15 ?c15 ?k15 ?a16 ?l16 ?c16 ?k16 ?a17 ?l17 ?c17 ?k17 ?a18 ?l18 ?c18 ?k18 ?a19 ?l19 ?c19 ?k19 ?z0 ?z1 ?z2 ?z3 ?z4 ?z5 ?z6 ?z7 ?z8 ?z9 ?z10 ?z11 ?z12 ?z13 ?z14 ?z15 ?z16 ?m0 ?m1
    (case a1 => k_is)
    (case l1 => k_is)
    (case c1 => k_is)
    (case k1 => k_is)
    (case a2 => k_is)
    (case l2 => k_is)
    (case c2 => k_is)
    (case k2 => k_is)
    (case a3 => k_is)
    (case l3 => k_is)
    (case c3 => k_is)
    (case k3 => k_is)
    (case a4 => k_is)
    (case l4 => k_is)
    (case c4 => k_is)
    (case k4 => k_is)
    (case a5 => k_is)
    (case l5 => k_is)
    (case c5 => k_is)
    (case k5 => k_is)
    (case a6 => k_is)
    (case l6 => k_is)
    (case c6 => k_is)
    (case k6 => k_is)
    (case a7 => k_is)
    (case l7 => k_is)
    (case c7 => k_is)
    (case k7 => k_is)
    (case a8 => k_is)
    (case l8 => k_is)
    (case c8 => k_is)
    (case k8 => k_is)
    (case a9 => k_is)
    (case l9 => k_is)
    (case c9 => k_is)
    (case k9 => k_is)
    (case a10 => k_is)
    (case l10 => k_is)
    (case c10 => k_is)
    (case k10 => k_is)
    (case a11 => k_is)
    (case l11 => k_is)
    (case c11 => k_is)
    (case k11 => k_is)
    (case a12 => k_is)
    (case l12 => k_is)
    (case c12 => k_is)
    (case k12 => k_is)
    (case a13 => k_is)
    (case l13 => k_is)
    (case c13 => k_is)
    (case k13 => k_is)
    (case a14 => k_is)
    (case l14 => k_is)
    (case c14 => k_is)
    (case k14 => k_is)
    (case a15 => k_is)
    (case l15 => k_is)
    (case c15 => k_is)
    (case k15 => k_is)
    (case a16 => k_is)
    (case l16 => k_is)
    (case c16 => k_is)
    (case k16 => k_is)
    (case a17 => k_is)
    (case l17 => k_is)
    (case c17 => k_is)
    (case k17 => k_is)
    (case a18 => k_is)
    (case l18 => k_is)
    (case c18 => k_is)
    (case k18 => k_is)
    (case a19 => k_is)
    (case l19 => k_is)
    (case c19 => k_is)
    (case k19 => k_is)
    (case z0 => k_is)
    (case z1 => k_is)
    (case z2 => k_is)
    (case z3 => k_is)
    (case z4 => k_is)
    (case z5 => k_is)
    (case z6 => k_is)
    (case z7 => k_is)
    (case z8 => k_is)
    (case z9 => k_is)
    (case z10 => k_is)
    (case z11 => k_is)
    (case z12 => k_is)
    (case z13 => k_is)
    (case z14 => k_is)
    (case z15 => k_is)
    (case z16 => k_is)
    (case m0 => k_is)
    (case m1 => k_is)
